/- What the law's lay comes to; that the laws are awake. Condition: the library's table stands. -/
import Derived.Test.YtbcpdkmbbgcfbaaDoorNt
namespace Go.Proofs.YtbcpdkmbbgcfbaaDoor
open Go.RowKit Go.Op
set_option maxRecDepth 100000

theorem new_e (n : Nat) : (M.new n).e = M.new n := by
  unfold M.new M.e
  simp [List.map_replicate, Cl.e, Held.e]
theorem live_E {w0 w : World} {b c r : Nat} {G : List (Nat × List Value)} {m : M} (h : HasE w0 b c r G w m) : Calls Tryd.prog 36 #[.pointer (some ⟨b, 0, none⟩)] w fun e w' => e = .returned (.int .i64 m.live) ∧ w = w' := by
  obtain ⟨m0, h1, h2, h3, rfl, h5⟩ := h
  exact live_any w b c r m0 h1.at_
theorem ent_46 (xs : Array Value) (w : World) : (callFunc 46 xs).run Tryd.prog w = .ok (.enter 46 xs) w := by kernel_rfl
theorem ent_45 (xs : Array Value) (w : World) : (callFunc 45 xs).run Tryd.prog w = .ok (.enter 45 xs) w := by kernel_rfl
theorem ent_40 (xs : Array Value) (w : World) : (callFunc 40 xs).run Tryd.prog w = .ok (.enter 40 xs) w := by kernel_rfl
theorem ent_36 (xs : Array Value) (w : World) : (callFunc 36 xs).run Tryd.prog w = .ok (.enter 36 xs) w := by kernel_rfl
theorem mul2_3 {n : Int} (xo yo : Operand) (W : World) (h0 : 0 ≤ n) (h1 : n ≤ 1000000) : (eqGuard .mul 3 xo yo (.int .i64 2) (.int .i64 n)).run Tryd.prog W = .ok () W ∧ (binOp .mul 3 (.int .i64 2) (.int .i64 n)).run Tryd.prog W = .ok (.int .i64 (2 * n)) W := by
  have h2 : 0 ≤ 2 * n := by omega
  have h3 : 2 * n ≤ 2000000 := by omega
  exact ⟨by simp [eqGuard], by go_simp; rw [IntKind.wrap_i64] <;> omega⟩
theorem add_3 {n k : Int} (xo yo : Operand) (W : World) (h0 : 0 ≤ n + k) (h1 : n + k ≤ 1000000) : (eqGuard .add 3 xo yo (.int .i64 n) (.int .i64 k)).run Tryd.prog W = .ok () W ∧ (binOp .add 3 (.int .i64 n) (.int .i64 k)).run Tryd.prog W = .ok (.int .i64 (n + k)) W :=
  ⟨by simp [eqGuard], by go_simp; rw [IntKind.wrap_i64] <;> omega⟩
theorem load_22 {w : World} {p : Addr} {a : Option Addr} {n cap : Nat} (h : w.cell? p = some (.slice a n cap)) : (Instr.loadAt 22 (.pointer (some p))).run Tryd.prog w = .ok (.slice a n cap) w := by go_simp
theorem load_25 {w : World} {p : Addr} {a : Option Addr} {n cap : Nat} (h : w.cell? p = some (.slice a n cap)) : (Instr.loadAt 25 (.pointer (some p))).run Tryd.prog w = .ok (.slice a n cap) w := by go_simp
theorem load_4 {w : World} {p : Addr} {x : Bool} (h : w.cell? p = some (.bool x)) : (Instr.loadAt 4 (.pointer (some p))).run Tryd.prog w = .ok (.bool x) w := by go_simp
/-- A yard that was laid. -/
structure Laid (w : World) (bs : List Nat) (w' : World) (b c r : Nat) (G : List (Nat × List Value)) (m : M) (y : Yd) (hd p1 p2 : Int) (l : List (Int × Rv × Int)) : Prop where
  has : HasE w b c r G w' m
  ym : YM m y.H hd p1 p2 l
  vers : l.map (fun x => x.2.1.ver) = vers bs.reverse
  len : l.length = bs.length
  n : y.n = ⟨⟨#[107]⟩, hd, [p1, p2]⟩
  pn : y.pn.In G (ints [p1, p2])
  ch : y.ch.In G (ints (Go.Proofs.YtbcpdkmbbgcfbaaDoor.vers bs.reverse))
  hs : y.hs.In G (ints (l.map Prod.fst))
/-- A region with one store, at whatever time. -/
structure OneK (w2 : World) (R : World → Prop) (P : World → Prop) (bs : List Bool) (_ : Nat → Value) (W : World) : Prop where
  one : bs[0]? = some false → Below w2.heap.size w2 W
  two : bs[0]? = some true → P W
  keep : R W
set_option maxHeartbeats 2000000 in
theorem lay_any (w : World) (hT : TabAt w) {a : Option Addr} {cap : Nat} (bs : List Nat) (hn : bs.length ≤ 90) (hb : Bys w [] a bs) :
    Calls Tryd.prog 12 #[.slice a bs.length cap] w fun e w' => (∃ b c r G m y hd p1 p2 l, e = .returned (.tuple #[Yd.v b y, .bool true]) ∧ Laid w bs w' b c r G m y hd p1 p2 l) ∧ Below w.heap.size w w' := by
  obtain ⟨wa, hwa⟩ : ∃ W, W = (w.alloc (.cells #[.slice a bs.length cap] 22)).alloc (.cells #[.pointer none, .int .i64 0, .string ⟨#[]⟩, .int .i64 0, .slice none 0 0, .slice none 0 0, .slice none 0 0] 29) := ⟨_, rfl⟩
  have hza : wa.heap.size = w.heap.size + 2 := by rw [hwa]; simp
  have hba : Below w.heap.size w wa := by rw [hwa]; exact ((Below.refl _ _).alloc (Nat.le_refl _) _).alloc (by simp) _
  have v1 : SVar wa w.heap.size [.slice a bs.length cap] := by
    rw [hwa]
    exact (snew w [.slice a bs.length cap] 22).later ((Below.refl _ _).alloc (Nat.le_refl _) _)
  have v2 : SVar wa (w.heap.size + 1) [.pointer none, .int .i64 0, .string ⟨#[]⟩, .int .i64 0, .slice none 0 0, .slice none 0 0, .slice none 0 0] := by
    have := snew (w.alloc (.cells #[.slice a bs.length cap] 22)) [.pointer none, .int .i64 0, .string ⟨#[]⟩, .int .i64 0, .slice none 0 0, .slice none 0 0, .slice none 0 0] 29
    rw [World.size_alloc] at this
    rw [hwa]; exact this
  have hnew : Calls Tryd.prog 30 #[.int .i64 200] wa fun e w' => Made wa 200 e w' := new_any 200 (by decide) (by decide) wa
  have HW := Lib.hid hwa.symm
  have HA := Lib.hid (⟨hza, hba, v1, v2⟩ : _ ∧ _ ∧ _ ∧ _)
  have HB := Lib.hid hb
  have HT := Lib.hid hT
  have HN := Lib.hid hn
  have pe := ptr_eq24
  have hm := hmf
  clear hza hba v1 v2 hwa hb hT hn
  generalize hnn : bs.length = n at *
  go_enter Tryd.func12, Tryd.ntmps12
  go_wp2_with (first | rw [HW.out] | fail)
  refine hnew.mono ?_
  rintro e w1 ⟨b, c, r, rfl, hAt, hb1, q1, q2, q3⟩
  obtain ⟨hza, hba, v1, v2⟩ := HA.out
  have hs1 := hb1.size
  obtain ⟨wb, hwb⟩ : ∃ W, W = (w1.alloc (.cells (Yd.row b yd0).toArray 29)).alloc (.cells #[.bool true] 4) := ⟨_, rfl⟩
  have b1 := (Below.refl w1.heap.size w1).alloc (Nat.le_refl _) (.cells (Yd.row b yd0).toArray 29)
  have hz1 : (w1.alloc (.cells (Yd.row b yd0).toArray 29)).heap.size = w1.heap.size + 1 := by simp
  have b2 := (Below.refl (w1.alloc (.cells (Yd.row b yd0).toArray 29)).heap.size (w1.alloc (.cells (Yd.row b yd0).toArray 29))).alloc (Nat.le_refl _) (.cells #[.bool true] 4)
  have hzb : wb.heap.size = w1.heap.size + 2 := by rw [hwb]; simp
  have hb2 : Below w1.heap.size w1 wb := by rw [hwb]; exact b1.alloc (by simp) _
  have hE0 : HasE w b c r [] w1 (M.new 200) :=
    ⟨M.new 200, ⟨hAt, new_ok 200 (by decide), hba.trans (hb1.mono (by omega)), by omega, by omega, by omega⟩, (fun i x hx => by
      simp only [M.new, List.getElem?_replicate] at hx
      split at hx
      · cases hx; exact no_in
      · cases hx), Int.le_refl _, new_e 200, fun g l hg => (by cases hg)⟩
  have hE1 := hE0.later hb2
  have ly : LocM w b c r [] wb w1.heap.size := by
    have := hE0.fresh (.cells (Yd.row b yd0).toArray 29)
    rw [hwb]; exact this.later b2.size (Grow.refl _ _)
  have lo : LocM w b c r [] wb (w1.heap.size + 1) := by
    have := (hE0.later b1).fresh (.cells #[.bool true] 4)
    rw [hwb]
    rw [hz1] at this
    exact this
  have hy : SVar wb w1.heap.size (Yd.row b yd0) := by
    rw [hwb]
    exact (snew w1 (Yd.row b yd0) 29).later b2
  have ho : SVar wb (w1.heap.size + 1) [.bool true] := by
    have := snew (w1.alloc (.cells (Yd.row b yd0).toArray 29)) [.bool true] 4
    rw [hz1] at this
    rw [hwb]; exact this
  have kw : ∀ z, z < wa.heap.size → wb.heap[z]? = wa.heap[z]? := fun z hz => (hb2.block z (by omega)).trans (hb1.block z hz)
  have cb : wb.cell? ⟨w.heap.size, 0, none⟩ = some (.slice a n cap) := (World.cell?_of_block (w := wa) (a := ⟨w.heap.size, 0, none⟩) (kw w.heap.size (by omega))).trans (v1.cell (i := 0) rfl)
  have hby : Bys wb [b, c, r, w1.heap.size, w1.heap.size + 1] a bs := ⟨HB.out.le, HB.out.row.imp id fun ⟨g, o, e, hg, _, hr⟩ => ⟨g, o, e, by omega, by simp only [List.mem_cons, List.not_mem_nil, or_false]; omega, fun j v hj => by
    rw [World.cell?_of_block (w := w) (a := ⟨g, o + j, none⟩) ((kw g (by omega)).trans (hba.block g hg))]
    exact hr j v hj⟩⟩
  have hdo := do_any wb b 46 #[.pointer (some ⟨w.heap.size, 0, none⟩), .pointer (some ⟨w1.heap.size + 1, 0, none⟩), .pointer (some ⟨w1.heap.size, 0, none⟩)] _ ent_46
    (lay1_any hE1 HT.out bs (by rw [hnn]; exact HN.out) hby (by rw [hnn]; exact cb) ⟨by omega, by simp only [List.mem_cons, List.not_mem_nil, or_false]; omega⟩ hy ly ho lo (by omega))
  simp only [Yd.row, yd0, nd0, Sl.nil] at hwb
  have HW2 := Lib.hid hwb.symm
  have HZ := Lib.hid (⟨hzb, kw, ly, lo, cb⟩ : _ ∧ _ ∧ _ ∧ _ ∧ _)
  have HH := Lib.hid (⟨q1, q2, q3, hs1⟩ : _ ∧ _ ∧ _ ∧ _)
  have HB1 := Lib.hid (⟨hb1, hb2⟩ : _ ∧ _)
  clear hnew hAt hb1 q1 q2 q3 b1 b2 hzb hb2 hE0 hE1 ly lo hy ho kw cb hby hwb hs1 hza hba v1 v2 hz1
  go_wp2_with (first | rw [HW2.out] | fail)
  refine hdo.mono ?_
  rintro e w2 ⟨u, rfl, rfl, hQ⟩
  obtain ⟨G2, m2, hd, p1, p2, l, y, hbn, hhe, hgr, hym, hvs, hll, sy, so, hyn, hpn, hch, hhs⟩ := hQ
  obtain ⟨hza, hba, v1, v2⟩ := HA.out
  obtain ⟨hzb, kw, ly, lo, cb⟩ := HZ.out
  obtain ⟨q1, q2, q3, hs1⟩ := HH.out
  have hs2 := hbn.size
  have kz : ∀ z, z < wa.heap.size → w2.heap[z]? = wa.heap[z]? := fun z hz => (hbn.block z (by omega) (by simp only [List.mem_cons, List.not_mem_nil, or_false]; omega)).trans (kw z hz)
  have vr : SVar w2 (w.heap.size + 1) [.pointer none, .int .i64 0, .string ⟨#[]⟩, .int .i64 0, .slice none 0 0, .slice none 0 0, .slice none 0 0] := v2.same (by omega) (kz _ (by omega))
  have vb : SVar w2 w.heap.size [.slice a n cap] := v1.same (by omega) (kz _ (by omega))
  have lr : LocM w b c r G2 w2 (w.heap.size + 1) := ⟨by omega, by omega, ⟨by omega, by omega, by omega⟩, fun x hx e => (hgr.2 x hx).elim (fun e2 => (by cases e2)) fun e2 => by omega⟩
  have hP : ∀ W, Below w2.heap.size w2 W → (Instr.storeAt 29 (.pointer (some ⟨w.heap.size + 1, 0, none⟩)) (Yd.v b y)).run Tryd.prog W = .ok () (sput W (w.heap.size + 1) (Yd.row b y)) ∧ (((∃ b1 c r G m y' hd p1 p2 l, Ending.returned (.tuple #[Yd.v b y, .bool true]) = .returned (.tuple #[Yd.v b1 y', .bool true]) ∧ Laid w bs (sput W (w.heap.size + 1) (Yd.row b y)) b1 c r G m y' hd p1 p2 l) ∧ Below w.heap.size w (sput W (w.heap.size + 1) (Yd.row b y))) ∧ (Go.loadVar 29 ⟨w.heap.size + 1, 0, none⟩).run Tryd.prog (sput W (w.heap.size + 1) (Yd.row b y)) = .ok (Yd.v b y) (sput W (w.heap.size + 1) (Yd.row b y))) := by
    intro W hW
    have hs3 := hW.size
    have vr2 := vr.later hW
    have hbs : But (w.heap.size + 1) W (sput W (w.heap.size + 1) (Yd.row b y)) := But.sput _ _ _
    have hsz := hbs.size
    have hbe : Below w.heap.size w (sput W (w.heap.size + 1) (Yd.row b y)) := by
      refine ⟨hbs.os.trans (hW.os.trans (hbn.os.trans (HB1.out.2.os.trans (HB1.out.1.os.trans hba.os)))), hbs.tape.trans (hW.tape.trans (hbn.tape.trans (HB1.out.2.tape.trans (HB1.out.1.tape.trans hba.tape)))), hbs.output.trans (hW.output.trans (hbn.output.trans (HB1.out.2.output.trans (HB1.out.1.output.trans hba.output)))), by omega, fun z hz => ?_⟩
      rw [hbs.block z (by omega) (by omega), hW.block z (by omega), kz z (by omega)]
      exact hba.block z hz
    refine ⟨vr2.store (row' := Yd.row b y) rfl sh29 (by
      intro u hu
      simp only [Yd.row, List.mem_cons, List.not_mem_nil, or_false] at hu
      rcases hu with rfl | rfl | rfl | rfl | rfl | rfl | rfl <;> rfl), ⟨⟨b, c, r, G2, m2, y, hd, p1, p2, l, rfl, (hhe.later hW).aside hbs ⟨by omega, by omega, by omega, by omega, lr.ng⟩, hym, hvs, hll, hyn, hpn, hch, hhs⟩, hbe⟩, (vr2.put (row' := Yd.row b y) rfl).loadVar sh29⟩
  have hlv : m2.live = 2 * (n : Int) + 4 := by rw [hym.live, hll, hnn]
  have hR : ∀ W, Below w2.heap.size w2 W → (HasE w b c r G2 W m2 ∧ SVar W w.heap.size [.slice a n cap] ∧ SVar W w1.heap.size (Yd.row b y) ∧ SVar W (w1.heap.size + 1) [.bool true]) := fun W hW => ⟨hhe.later hW, vb.later hW, sy.later hW, so.later hW⟩
  have hR2 : ∀ W, Below w2.heap.size w2 W → (HasE w b c r G2 (sput W (w.heap.size + 1) (Yd.row b y)) m2 ∧ SVar (sput W (w.heap.size + 1) (Yd.row b y)) w.heap.size [.slice a n cap] ∧ SVar (sput W (w.heap.size + 1) (Yd.row b y)) w1.heap.size (Yd.row b y) ∧ SVar (sput W (w.heap.size + 1) (Yd.row b y)) (w1.heap.size + 1) [.bool true]) := fun W hW => by
    have hbs : But (w.heap.size + 1) W (sput W (w.heap.size + 1) (Yd.row b y)) := But.sput _ _ _
    have hs3 := hW.size
    exact ⟨(hhe.later hW).aside hbs ⟨by omega, by omega, by omega, by omega, lr.ng⟩, (vb.later hW).same hbs.size (hbs.block _ (by omega) (by omega)), (sy.later hW).same hbs.size (hbs.block _ (by omega) (by omega)), (so.later hW).same hbs.size (hbs.block _ (by omega) (by omega))⟩
  have HP := Lib.hid hP
  have HR := Lib.hid hR
  have HR2 := Lib.hid hR2
  have HLv := Lib.hid hlv
  have mixed : Tryd.prog.follows .mixedOrders = true := by kernel_rfl
  clear hdo hbn hhe hgr hym hvs hll sy so hyn hpn hch hhs hza hba v1 v2 hzb kw ly lo cb q1 q2 q3 hs1 hs2 kz vr vb lr hP hR hR2 hlv
  go_wp2_with fail
  have kk1 : ∀ (xo yo : Operand) (W : World), (eqGuard .mul 3 xo yo (.int .i64 2) (.int .i64 (n : Int))).run Tryd.prog W = .ok () W ∧ (binOp .mul 3 (.int .i64 2) (.int .i64 (n : Int))).run Tryd.prog W = .ok (.int .i64 (2 * (n : Int))) W := fun xo yo W => mul2_3 xo yo W (by omega) (by have := HN.out; omega)
  have kk2 : ∀ (xo : Operand) (W : World), (eqGuard .add 3 xo (.const (.int .i64 4)) (.int .i64 (2 * (n : Int))) (.int .i64 4)).run Tryd.prog W = .ok () W ∧ (binOp .add 3 (.int .i64 (2 * (n : Int))) (.int .i64 4)).run Tryd.prog W = .ok (.int .i64 (2 * (n : Int) + 4)) W := fun xo W => add_3 xo _ W (by omega) (by have := HN.out; omega)
  have kk3 : ∀ (ty : TypeId) (W : World), (Builtin.len_ #[22] ty #[.slice a n cap]).run Tryd.prog W = .ok (.int .i64 (n : Int)) W := fun ty W => by go_simp
  refine FreeV.region_puts (S := OneK w2 (fun W => HasE w b c r G2 W m2 ∧ SVar W w.heap.size [.slice a n cap] ∧ SVar W w1.heap.size (Yd.row b y) ∧ SVar W (w1.heap.size + 1) [.bool true]) (fun W => ((∃ b1 c r G m y' hd p1 p2 l, Ending.returned (.tuple #[.agg #[.pointer (some ⟨b, 0, none⟩), .int .i64 y.H, .string y.n.low, .int .i64 y.n.head, .slice y.pn.a y.pn.n y.pn.cap, .slice y.ch.a y.ch.n y.ch.cap, .slice y.hs.a y.hs.n y.hs.cap], .bool true]) = .returned (.tuple #[Yd.v b1 y', .bool true]) ∧ Laid w bs W b1 c r G m y' hd p1 p2 l) ∧ Below w.heap.size w W) ∧ (Go.loadVar 29 ⟨w.heap.size + 1, 0, none⟩).run Tryd.prog W = .ok (.agg #[.pointer (some ⟨b, 0, none⟩), .int .i64 y.H, .string y.n.low, .int .i64 y.n.head, .slice y.pn.a y.pn.n y.pn.cap, .slice y.ch.a y.ch.n y.ch.cap, .slice y.hs.a y.hs.n y.hs.cap]) W)) (effs := [11])
    (tab := [⟨0, fun _ => [.pointer (some ⟨w1.heap.size, 0, none⟩)], fun _ => .agg #[.pointer (some ⟨b, 0, none⟩), .int .i64 y.H, .string y.n.low, .int .i64 y.n.head, .slice y.pn.a y.pn.n y.pn.cap, .slice y.ch.a y.ch.n y.ch.cap, .slice y.hs.a y.hs.n y.hs.cap], .read⟩,
      ⟨1, fun _ => [.pointer (some ⟨w1.heap.size + 1, 0, none⟩)], fun _ => .bool true, .read⟩,
      ⟨4, fun _ => [.func (.func 36) #[] #[], .pointer (some ⟨b, 0, none⟩)], fun _ => .int .i64 m2.live, .ask⟩,
      ⟨5, fun _ => [.pointer (some ⟨w.heap.size, 0, none⟩)], fun _ => .slice a n cap, .read⟩,
      ⟨6, fun _ => [.slice a n cap], fun _ => .int .i64 (n : Int), .pure⟩,
      ⟨7, fun _ => [.int .i64 2, .int .i64 (n : Int)], fun _ => .int .i64 (2 * (n : Int)), .pure⟩,
      ⟨8, fun _ => [.int .i64 (2 * (n : Int)), .int .i64 4], fun _ => .int .i64 (2 * (n : Int) + 4), .pure⟩,
      ⟨9, fun _ => [.int .i64 m2.live, .int .i64 (2 * (n : Int) + 4)], fun _ => .bool true, .pure⟩,
      ⟨11, fun _ => [.pointer (some ⟨w.heap.size + 1, 0, none⟩), .agg #[.pointer (some ⟨b, 0, none⟩), .int .i64 y.H, .string y.n.low, .int .i64 y.n.head, .slice y.pn.a y.pn.n y.pn.cap, .slice y.ch.a y.ch.n y.ch.cap, .slice y.hs.a y.hs.n y.hs.cap]], fun _ => undef, .put⟩])
    (vs := [([], fun _ => .agg #[.pointer (some ⟨b, 0, none⟩), .int .i64 y.H, .string y.n.low, .int .i64 y.n.head, .slice y.pn.a y.pn.n y.pn.cap, .slice y.ch.a y.ch.n y.ch.cap, .slice y.hs.a y.hs.n y.hs.cap]), ([], fun _ => .bool true), ([], fun _ => .bool true), ([], fun _ => .pointer (some ⟨b, 0, none⟩)), ([], fun _ => .int .i64 m2.live), ([], fun _ => .slice a n cap), ([], fun _ => .int .i64 (n : Int)), ([], fun _ => .int .i64 (2 * (n : Int))), ([], fun _ => .int .i64 (2 * (n : Int) + 4)), ([], fun _ => .bool true), ([], fun _ => .bool true), ([], fun _ => undef), ([], fun _ => .bool true)])
    (by kernel_rfl) ⟨by kernel_rfl, ⟨FreeV.d_load _ rfl rfl (fun β bs W hS hd => hS.keep.2.2.1.load sh29),
      FreeV.d_load _ rfl rfl (fun β bs W hS hd => load_4 (hS.keep.2.2.2.cell (i := 0) rfl)),
      FreeV.d_ask1 _ rfl rfl ent_36 (fun β bs W hS hd => (live_E hS.keep.1).mono fun e w' ⟨p, q⟩ => ⟨p, q ▸ hS⟩),
      FreeV.d_load _ rfl rfl (fun β bs W hS hd => load_22 (hS.keep.2.1.cell (i := 0) rfl)),
      FreeV.d_len _ rfl rfl (fun β ty W => kk3 ty W),
      FreeV.d_bin _ rfl rfl (fun β xo yo W => kk1 xo yo W),
      FreeV.d_binc _ rfl rfl (fun β xo W => kk2 xo W),
      FreeV.d_bin _ rfl rfl (fun β xo yo W => cmp_eql3 xo yo W (by rw [HLv.out]; simp)),
      FreeV.d_store _ rfl rfl 0 rfl (fun β bs W hS hd => ⟨_, (HP.out W (hS.one ((hd 0 11 rfl).2 (.inr rfl)))).1, fun e => (by rw [set_at ((hd 0 11 rfl).2 (.inr rfl))] at e; cases e), fun _ => (HP.out W (hS.one ((hd 0 11 rfl).2 (.inr rfl)))).2, HR2.out W (hS.one ((hd 0 11 rfl).2 (.inr rfl)))⟩),
      trivial⟩,
      fun β => by kernel_rfl, fun β => by kernel_rfl, by kernel_rfl, fun β => by kernel_rfl, by kernel_rfl⟩ ⟨fun _ => (Below.refl _ _).drew, fun e => (by cases e), HR.out _ (Below.refl _ _).drew⟩ (fun β => Free.from_ 24 [.agg #[.pointer (some ⟨b, 0, none⟩), .int .i64 y.H, .string y.n.low, .int .i64 y.n.head, .slice y.pn.a y.pn.n y.pn.cap, .slice y.ch.a y.ch.n y.ch.cap, .slice y.hs.a y.hs.n y.hs.cap], .bool true, .bool true, .pointer (some ⟨b, 0, none⟩), .int .i64 m2.live, .slice a n cap, .int .i64 (n : Int), .int .i64 (2 * (n : Int)), .int .i64 (2 * (n : Int) + 4), .bool true, .bool true] ++ [(3, .bool true)]) (fun β => by kernel_rfl) ?_
  intro β w4 h4
  obtain ⟨HX, HY⟩ := h4.two rfl
  have HE := Lib.hid HX
  have HF := Lib.hid HY
  clear h4 HX HY HP HR HR2
  rw [FreeX.puts_append, Free.puts_from _ _ _ (Nat.le_of_ble_eq_true rfl)]
  simp only [List.take_succ_cons, List.take_zero, List.drop_succ_cons, List.drop_zero, List.cons_append, List.nil_append, List.length_cons, List.length_nil, Nat.reduceAdd]
  unfold Free.puts
  simp only [List.foldl_cons, List.foldl_nil]
  go_wp2_with fail
  exact bodyPost_ret (res_ct (.bool true) Tryd.results12 rfl rfl HF.out) rfl HE.out
end Go.Proofs.YtbcpdkmbbgcfbaaDoor
