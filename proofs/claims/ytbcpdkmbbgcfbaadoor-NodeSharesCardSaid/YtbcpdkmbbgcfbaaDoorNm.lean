/- What Newest and At come to. Conditions: at most 700000 asks; so many ages at most as are told. -/
import Derived.Test.YtbcpdkmbbgcfbaaDoorNl
namespace Go.Proofs.YtbcpdkmbbgcfbaaDoor
open Go.RowKit Go.Op
set_option maxRecDepth 100000

def newestP (n : Nat) (hd : Int) : Pr (Option (Sp × Int)) := upP n hd 9223372036854775807
def RNew (G' : List (Nat × List Value)) (a : Option (Sp × Int)) (v : Value) : Prop := ∃ x p, a = some x ∧ x.1.a.d.In G' p ∧ v = .tuple #[.int .i64 x.1.h, x.1.a.v p, .int .i64 x.2]
def RAt (G' : List (Nat × List Value)) (a : Option (Sp × Int)) (v : Value) : Prop := ∃ x p, a = some x ∧ x.1.a.d.In G' p ∧ v = .tuple #[x.1.a.v p, .bool (x.1.h != 0), .int .i64 x.2]
/-- Within a region with one store; a cell that stays. -/
structure OneMid (w2 : World) (a : Addr) (h : Int) (P : World → Prop) (bs : List Bool) (_ : Nat → Value) (W : World) : Prop where
  one : bs[0]? = some false → Below w2.heap.size w2 W
  two : bs[0]? = some true → P W
  cell : W.cell? a = some (.int .i64 h)
theorem one_start {w2 : World} {a : Addr} {h : Int} {P : World → Prop} {β : Nat → Value} (hc : w2.cell? a = some (.int .i64 h)) : OneMid w2 a h P [false] β w2.drew := ⟨fun _ => (Below.refl _ _).drew, fun e => (by cases e), hc⟩
theorem cmp_neq3c {a k : Int} {r : Bool} (xo : Operand) (w : World) (h : (a != k) = r) : (eqGuard .neq 3 xo (.const (.int .i64 k)) (.int .i64 a) (.int .i64 k)).run Tryd.prog w = .ok () w ∧ (binOp .neq 3 (.int .i64 a) (.int .i64 k)).run Tryd.prog w = .ok (.bool r) w :=
  ⟨by simp [eqGuard], by subst h; go_simp⟩
theorem Sp.ageAt {w : World} {z : Nat} {x : Sp} {p : Pl} (h : SVar w z (x.row p)) : w.rangeAt z 1 (x.a.row p) := h.mid 1 _ fun j v hj => by
  rw [Nat.add_comm]; exact hj
section
variable {w0 : World} {b c r pb po : Nat} {t t1 : Value} {G G1 : List (Nat × List Value)} {w w1 w2 : World} {m m1 : M} {s s1 : Pt}
set_option maxHeartbeats 1000000 in
theorem Newest_E (h : SysE w0 b c r pb po t G w m s) (n : Nat) (hc : m.count + 3 * (n : Int) ≤ 700000) (nd : Nd) (p : Pl) (hne : ((newestP n nd.head).run s m).1 ≠ some none) :
    Calls Tryd.prog 15 #[.pointer (some ⟨pb, po, none⟩), nd.v p] w fun e w' => Ev w0 b c r pb po t G w RNew ((newestP n nd.head).run s m) e w' := by
  obtain ⟨wa, hwa⟩ : ∃ W, W = (w.alloc (.cells (nd.row p).toArray 27)).alloc aobj := ⟨_, rfl⟩
  have ba : Below w.heap.size w wa := by
    rw [hwa]
    exact ((Below.refl _ w).alloc (Nat.le_refl _) _).alloc (by simp) _
  have V1 := (Vars.nil (w := w)).new h (nd.row p) 27
  have h1 := h.later ((Below.refl w.heap.size w).alloc (Nat.le_refl _) (.cells (nd.row p).toArray 27))
  have V2 := V1.new h1 (ag0.row .nil) 42
  simp only [World.size_alloc] at V2
  have e2 : ((w.alloc (.cells (nd.row p).toArray 27)).alloc (.cells (ag0.row .nil).toArray 42)) = wa := hwa.symm
  rw [e2] at V2
  have hl := upTo_E (h.later ba) n hc nd p 9223372036854775807 hne
  have HW := Lib.hid hwa.symm
  have HB := Lib.hid ba
  have HV := Lib.hid V2
  have hld := (V2 (w.heap.size, nd.row p) (by simp)).2.load sh27
  simp only [Nd.row, aobj] at HW hld
  unfold Nd.v at hl
  unfold Nd.v
  have mixed : Tryd.prog.follows .mixedOrders = true := by kernel_rfl
  clear h hwa ba V1 h1 V2 e2 hc hne
  go_enter Tryd.func15, Tryd.ntmps15
  go_wp2_with (first | rw [HW.out] | ((with_reducible refine load_run ?_ (.tmp 3) 27 ?_ ?_ hld ?_); exact rfl; exact rfl; exact rfl) | fail)
  refine hl.mono ?_
  rintro e w1 hE
  rcases hE.cases with ⟨t1, G1, s1, m1, ho, rfl, ha⟩ | ⟨t1, G1, s1, m1, o, v1, ho, rfl, ⟨x, q, rfl, hin, rfl⟩, ha⟩
  · have HX : Hid (Ev w0 b c r pb po t G w RNew ((newestP n nd.head).run s m) (Halt pb po) w1) := Ev.die ho (ha.back HB.out)
    clear hl hE ho ha hld
    unfold Halt
    go_wp2
    exact ⟨rfl, HX.out⟩
  have hV := HV.out.aft ha
  obtain ⟨w2, hw2⟩ : ∃ W, W = w1.alloc (.cells (x.1.row q).toArray 84) := ⟨_, rfl⟩
  have hb2 : Below w1.heap.size w1 w2 := by rw [hw2]; exact (Below.refl _ _).alloc (Nat.le_refl _) _
  have hs : SVar w2 w1.heap.size (x.1.row q) := by rw [hw2]; exact snew _ _ _
  have hr : SVar w2 (w.heap.size + 1) (ag0.row .nil) := (hV (w.heap.size + 1, ag0.row .nil) (by simp)).2.later hb2
  have hrl : Loc w0 b c r pb t1 G1 w2 (w.heap.size + 1) := (hV (w.heap.size + 1, ag0.row .nil) (by simp)).1.same hb2.size
  have ha2 := (ha.back HB.out).later hb2
  have hst : ∀ W, Below w2.heap.size w2 W → (Instr.storeAt 42 (.pointer (some ⟨w.heap.size + 1, 0, none⟩)) (.agg #[.int .i64 x.1.a.r.ver, .int .i64 x.1.a.r.rate, .string x.1.a.r.lo, .string x.1.a.r.hi, .bool x.1.a.r.all, .bool x.1.a.r.dead, .slice q.s0.a q.s0.n q.s0.cap, .slice q.s1.a q.s1.n q.s1.cap, .slice q.s2.a q.s2.n q.s2.cap, .slice q.s3.a q.s3.n q.s3.cap, .int .i64 x.1.a.pv])).run Tryd.prog W = .ok () (sput W (w.heap.size + 1) (x.1.a.row q)) ∧ Ev w0 b c r pb po t G w RNew ((newestP n nd.head).run s m) (.returned (.tuple #[.int .i64 x.1.h, .agg #[.int .i64 x.1.a.r.ver, .int .i64 x.1.a.r.rate, .string x.1.a.r.lo, .string x.1.a.r.hi, .bool x.1.a.r.all, .bool x.1.a.r.dead, .slice q.s0.a q.s0.n q.s0.cap, .slice q.s1.a q.s1.n q.s1.cap, .slice q.s2.a q.s2.n q.s2.cap, .slice q.s3.a q.s3.n q.s3.cap, .int .i64 x.1.a.pv], .int .i64 x.2])) (sput W (w.heap.size + 1) (x.1.a.row q)) ∧ (Go.loadVar 42 ⟨w.heap.size + 1, 0, none⟩).run Tryd.prog (sput W (w.heap.size + 1) (x.1.a.row q)) = .ok (.agg #[.int .i64 x.1.a.r.ver, .int .i64 x.1.a.r.rate, .string x.1.a.r.lo, .string x.1.a.r.hi, .bool x.1.a.r.all, .bool x.1.a.r.dead, .slice q.s0.a q.s0.n q.s0.cap, .slice q.s1.a q.s1.n q.s1.cap, .slice q.s2.a q.s2.n q.s2.cap, .slice q.s3.a q.s3.n q.s3.cap, .int .i64 x.1.a.pv]) (sput W (w.heap.size + 1) (x.1.a.row q)) := fun W hW =>
    have hr2 := hr.later hW
    ⟨hr2.store (row' := x.1.a.row q) rfl sh42 (x.1.a.row_one q), Ev.ret ho ⟨x, q, rfl, hin, rfl⟩ ((ha2.later hW).aside (But.sput _ _ _) (hrl.same hW.size) (Nat.le_succ _)), (hr2.put (row' := x.1.a.row q) rfl).loadVar sh42⟩
  have HSt := Lib.hid hst
  have HS := Lib.hid hs
  have HNe : Hid (w1.heap.size ≠ w.heap.size + 1) := by
    have h1 := (hV (w.heap.size + 1, ag0.row .nil) (by simp)).2.lt
    show _ ≠ _
    simp only at h1
    omega
  have HW2 := Lib.hid hw2.symm
  unfold Sp.v
  simp only [Sp.row, Ag.row] at HW2
  have HCk : Hid (∀ W, Below w2.heap.size w2 W → W.cell? ⟨w1.heap.size, 0, none⟩ = some (.int .i64 x.1.h) → (sput W (w.heap.size + 1) (x.1.a.row q)).cell? ⟨w1.heap.size, 0, none⟩ = some (.int .i64 x.1.h)) := fun W hW hc => by
    rw [World.cell?_of_block (w := W) (a := ⟨w1.heap.size, 0, none⟩) ((But.sput W (w.heap.size + 1) (x.1.a.row q)).block w1.heap.size (Nat.lt_of_lt_of_le HS.out.lt hW.size) HNe.out)]
    exact hc
  clear hl hE ho ha hld hw2 hV hb2 hs hr hrl ha2 hst hin HV HB HW
  go_wp2_with (first | rw [HW2.out] | fail)
  refine FreeV.region_puts (S := OneMid w2 ⟨w1.heap.size, 0, none⟩ x.1.h (fun W => Ev w0 b c r pb po t G w RNew ((newestP n nd.head).run s m) (.returned (.tuple #[.int .i64 x.1.h, .agg #[.int .i64 x.1.a.r.ver, .int .i64 x.1.a.r.rate, .string x.1.a.r.lo, .string x.1.a.r.hi, .bool x.1.a.r.all, .bool x.1.a.r.dead, .slice q.s0.a q.s0.n q.s0.cap, .slice q.s1.a q.s1.n q.s1.cap, .slice q.s2.a q.s2.n q.s2.cap, .slice q.s3.a q.s3.n q.s3.cap, .int .i64 x.1.a.pv], .int .i64 x.2])) W ∧ (Go.loadVar 42 ⟨w.heap.size + 1, 0, none⟩).run Tryd.prog W = .ok (.agg #[.int .i64 x.1.a.r.ver, .int .i64 x.1.a.r.rate, .string x.1.a.r.lo, .string x.1.a.r.hi, .bool x.1.a.r.all, .bool x.1.a.r.dead, .slice q.s0.a q.s0.n q.s0.cap, .slice q.s1.a q.s1.n q.s1.cap, .slice q.s2.a q.s2.n q.s2.cap, .slice q.s3.a q.s3.n q.s3.cap, .int .i64 x.1.a.pv]) W)) (effs := [6])
    (tab := [⟨1, fun _ => [.pointer (some ⟨w1.heap.size, 0, none⟩)], fun _ => .int .i64 x.1.h, .read⟩,
      ⟨3, fun _ => [.pointer (some ⟨w1.heap.size, 1, none⟩)], fun _ => .agg #[.int .i64 x.1.a.r.ver, .int .i64 x.1.a.r.rate, .string x.1.a.r.lo, .string x.1.a.r.hi, .bool x.1.a.r.all, .bool x.1.a.r.dead, .slice q.s0.a q.s0.n q.s0.cap, .slice q.s1.a q.s1.n q.s1.cap, .slice q.s2.a q.s2.n q.s2.cap, .slice q.s3.a q.s3.n q.s3.cap, .int .i64 x.1.a.pv], .read⟩,
      ⟨6, fun _ => [.pointer (some ⟨w.heap.size + 1, 0, none⟩), .agg #[.int .i64 x.1.a.r.ver, .int .i64 x.1.a.r.rate, .string x.1.a.r.lo, .string x.1.a.r.hi, .bool x.1.a.r.all, .bool x.1.a.r.dead, .slice q.s0.a q.s0.n q.s0.cap, .slice q.s1.a q.s1.n q.s1.cap, .slice q.s2.a q.s2.n q.s2.cap, .slice q.s3.a q.s3.n q.s3.cap, .int .i64 x.1.a.pv]], fun _ => undef, .put⟩])
    (vs := [([], fun _ => .pointer (some ⟨w1.heap.size, 0, none⟩)), ([], fun _ => .int .i64 x.1.h), ([], fun _ => .pointer (some ⟨w1.heap.size, 1, none⟩)), ([], fun _ => .agg #[.int .i64 x.1.a.r.ver, .int .i64 x.1.a.r.rate, .string x.1.a.r.lo, .string x.1.a.r.hi, .bool x.1.a.r.all, .bool x.1.a.r.dead, .slice q.s0.a q.s0.n q.s0.cap, .slice q.s1.a q.s1.n q.s1.cap, .slice q.s2.a q.s2.n q.s2.cap, .slice q.s3.a q.s3.n q.s3.cap, .int .i64 x.1.a.pv]), ([], fun _ => .int .i64 x.2), ([], fun _ => .int .i64 x.1.h), ([], fun _ => undef), ([], fun _ => .int .i64 x.2)])
    (by kernel_rfl) ⟨by kernel_rfl, ⟨FreeV.d_load _ rfl rfl (fun β bs W hS hd => load_3 hS.cell),
      FreeV.d_load _ rfl rfl (fun β bs W hS hd => load_mid (sub := x.1.a.row q) (Sp.ageAt (HS.out.later (hS.one ((hd 0 6 rfl).2 (.inl (by kernel_rfl)))))) sh42),
      FreeV.d_store _ rfl rfl 0 rfl (fun β bs W hS hd => ⟨_, (HSt.out W (hS.one ((hd 0 6 rfl).2 (.inr rfl)))).1, fun e => (by rw [set_at ((hd 0 6 rfl).2 (.inr rfl))] at e; cases e), fun _ => (HSt.out W (hS.one ((hd 0 6 rfl).2 (.inr rfl)))).2, HCk.out W (hS.one ((hd 0 6 rfl).2 (.inr rfl))) hS.cell⟩),
      trivial⟩,
      fun β => by kernel_rfl, fun β => by kernel_rfl, by kernel_rfl, fun β => by kernel_rfl, by kernel_rfl⟩ (one_start (HS.out.cell (i := 0) rfl)) (fun β => Free.from_ 15 [.pointer (some ⟨w1.heap.size, 0, none⟩), .int .i64 x.1.h, .pointer (some ⟨w1.heap.size, 1, none⟩), .agg #[.int .i64 x.1.a.r.ver, .int .i64 x.1.a.r.rate, .string x.1.a.r.lo, .string x.1.a.r.hi, .bool x.1.a.r.all, .bool x.1.a.r.dead, .slice q.s0.a q.s0.n q.s0.cap, .slice q.s1.a q.s1.n q.s1.cap, .slice q.s2.a q.s2.n q.s2.cap, .slice q.s3.a q.s3.n q.s3.cap, .int .i64 x.1.a.pv], .int .i64 x.2] ++ [(4, .int .i64 x.1.h), (6, .int .i64 x.2)]) (fun β => by kernel_rfl) ?_
  intro β w4 h4
  obtain ⟨HX, HY⟩ := h4.two rfl
  have HE := Lib.hid HX
  have HF := Lib.hid HY
  clear h4 HX HY HSt HS
  rw [FreeX.puts_append, Free.puts_from _ _ _ (Nat.le_of_ble_eq_true rfl)]
  simp only [List.take_succ_cons, List.take_zero, List.drop_succ_cons, List.drop_zero, List.cons_append, List.nil_append, List.length_cons, List.length_nil, Nat.reduceAdd]
  unfold Free.puts
  simp only [List.foldl_cons, List.foldl_nil]
  go_wp2_with fail
  exact bodyPost_ret (res_tct (.int .i64 x.1.h) (.int .i64 x.2) Tryd.results15 rfl rfl rfl HF.out) rfl HE.out
set_option maxHeartbeats 1000000 in
theorem At_E (h : SysE w0 b c r pb po t G w m s) (n : Nat) (hc : m.count + 3 * (n : Int) ≤ 700000) (nd : Nd) (p : Pl) (v : Int) (hne : ((upP n nd.head v).run s m).1 ≠ some none) :
    Calls Tryd.prog 16 #[.pointer (some ⟨pb, po, none⟩), nd.v p, .int .i64 v] w fun e w' => Ev w0 b c r pb po t G w RAt ((upP n nd.head v).run s m) e w' := by
  obtain ⟨wa, hwa⟩ : ∃ W, W = (w.alloc (.cells (nd.row p).toArray 27)).alloc aobj := ⟨_, rfl⟩
  have ba : Below w.heap.size w wa := by
    rw [hwa]
    exact ((Below.refl _ w).alloc (Nat.le_refl _) _).alloc (by simp) _
  have V1 := (Vars.nil (w := w)).new h (nd.row p) 27
  have h1 := h.later ((Below.refl w.heap.size w).alloc (Nat.le_refl _) (.cells (nd.row p).toArray 27))
  have V2 := V1.new h1 (ag0.row .nil) 42
  simp only [World.size_alloc] at V2
  have e2 : ((w.alloc (.cells (nd.row p).toArray 27)).alloc (.cells (ag0.row .nil).toArray 42)) = wa := hwa.symm
  rw [e2] at V2
  have hl := upTo_E (h.later ba) n hc nd p v hne
  have HW := Lib.hid hwa.symm
  have HB := Lib.hid ba
  have HV := Lib.hid V2
  have hld := (V2 (w.heap.size, nd.row p) (by simp)).2.load sh27
  simp only [Nd.row, aobj] at HW hld
  unfold Nd.v at hl
  unfold Nd.v
  have mixed : Tryd.prog.follows .mixedOrders = true := by kernel_rfl
  clear h hwa ba V1 h1 V2 e2 hc hne
  go_enter Tryd.func16, Tryd.ntmps16
  go_wp2_with (first | rw [HW.out] | ((with_reducible refine load_run ?_ (.tmp 4) 27 ?_ ?_ hld ?_); exact rfl; exact rfl; exact rfl) | fail)
  refine hl.mono ?_
  rintro e w1 hE
  rcases hE.cases with ⟨t1, G1, s1, m1, ho, rfl, ha⟩ | ⟨t1, G1, s1, m1, o, v1, ho, rfl, ⟨x, q, rfl, hin, rfl⟩, ha⟩
  · have HX : Hid (Ev w0 b c r pb po t G w RAt ((upP n nd.head v).run s m) (Halt pb po) w1) := Ev.die ho (ha.back HB.out)
    clear hl hE ho ha hld
    unfold Halt
    go_wp2
    exact ⟨rfl, HX.out⟩
  have hV := HV.out.aft ha
  obtain ⟨w2, hw2⟩ : ∃ W, W = w1.alloc (.cells (x.1.row q).toArray 84) := ⟨_, rfl⟩
  have hb2 : Below w1.heap.size w1 w2 := by rw [hw2]; exact (Below.refl _ _).alloc (Nat.le_refl _) _
  have hs : SVar w2 w1.heap.size (x.1.row q) := by rw [hw2]; exact snew _ _ _
  have hr : SVar w2 (w.heap.size + 1) (ag0.row .nil) := (hV (w.heap.size + 1, ag0.row .nil) (by simp)).2.later hb2
  have hrl : Loc w0 b c r pb t1 G1 w2 (w.heap.size + 1) := (hV (w.heap.size + 1, ag0.row .nil) (by simp)).1.same hb2.size
  have ha2 := (ha.back HB.out).later hb2
  have hst : ∀ W, Below w2.heap.size w2 W → (Instr.storeAt 42 (.pointer (some ⟨w.heap.size + 1, 0, none⟩)) (.agg #[.int .i64 x.1.a.r.ver, .int .i64 x.1.a.r.rate, .string x.1.a.r.lo, .string x.1.a.r.hi, .bool x.1.a.r.all, .bool x.1.a.r.dead, .slice q.s0.a q.s0.n q.s0.cap, .slice q.s1.a q.s1.n q.s1.cap, .slice q.s2.a q.s2.n q.s2.cap, .slice q.s3.a q.s3.n q.s3.cap, .int .i64 x.1.a.pv])).run Tryd.prog W = .ok () (sput W (w.heap.size + 1) (x.1.a.row q)) ∧ Ev w0 b c r pb po t G w RAt ((upP n nd.head v).run s m) (.returned (.tuple #[.agg #[.int .i64 x.1.a.r.ver, .int .i64 x.1.a.r.rate, .string x.1.a.r.lo, .string x.1.a.r.hi, .bool x.1.a.r.all, .bool x.1.a.r.dead, .slice q.s0.a q.s0.n q.s0.cap, .slice q.s1.a q.s1.n q.s1.cap, .slice q.s2.a q.s2.n q.s2.cap, .slice q.s3.a q.s3.n q.s3.cap, .int .i64 x.1.a.pv], .bool (x.1.h != 0), .int .i64 x.2])) (sput W (w.heap.size + 1) (x.1.a.row q)) ∧ (Go.loadVar 42 ⟨w.heap.size + 1, 0, none⟩).run Tryd.prog (sput W (w.heap.size + 1) (x.1.a.row q)) = .ok (.agg #[.int .i64 x.1.a.r.ver, .int .i64 x.1.a.r.rate, .string x.1.a.r.lo, .string x.1.a.r.hi, .bool x.1.a.r.all, .bool x.1.a.r.dead, .slice q.s0.a q.s0.n q.s0.cap, .slice q.s1.a q.s1.n q.s1.cap, .slice q.s2.a q.s2.n q.s2.cap, .slice q.s3.a q.s3.n q.s3.cap, .int .i64 x.1.a.pv]) (sput W (w.heap.size + 1) (x.1.a.row q)) := fun W hW =>
    have hr2 := hr.later hW
    ⟨hr2.store (row' := x.1.a.row q) rfl sh42 (x.1.a.row_one q), Ev.ret ho ⟨x, q, rfl, hin, rfl⟩ ((ha2.later hW).aside (But.sput _ _ _) (hrl.same hW.size) (Nat.le_succ _)), (hr2.put (row' := x.1.a.row q) rfl).loadVar sh42⟩
  have HSt := Lib.hid hst
  have HS := Lib.hid hs
  have HNe : Hid (w1.heap.size ≠ w.heap.size + 1) := by
    have h1 := (hV (w.heap.size + 1, ag0.row .nil) (by simp)).2.lt
    show _ ≠ _
    simp only at h1
    omega
  have HW2 := Lib.hid hw2.symm
  unfold Sp.v
  simp only [Sp.row, Ag.row] at HW2
  have HCk : Hid (∀ W, Below w2.heap.size w2 W → W.cell? ⟨w1.heap.size, 0, none⟩ = some (.int .i64 x.1.h) → (sput W (w.heap.size + 1) (x.1.a.row q)).cell? ⟨w1.heap.size, 0, none⟩ = some (.int .i64 x.1.h)) := fun W hW hc => by
    rw [World.cell?_of_block (w := W) (a := ⟨w1.heap.size, 0, none⟩) ((But.sput W (w.heap.size + 1) (x.1.a.row q)).block w1.heap.size (Nat.lt_of_lt_of_le HS.out.lt hW.size) HNe.out)]
    exact hc
  clear hl hE ho ha hld hw2 hV hb2 hs hr hrl ha2 hst hin HV HB HW
  go_wp2_with (first | rw [HW2.out] | fail)
  refine FreeV.region_puts (S := OneMid w2 ⟨w1.heap.size, 0, none⟩ x.1.h (fun W => Ev w0 b c r pb po t G w RAt ((upP n nd.head v).run s m) (.returned (.tuple #[.agg #[.int .i64 x.1.a.r.ver, .int .i64 x.1.a.r.rate, .string x.1.a.r.lo, .string x.1.a.r.hi, .bool x.1.a.r.all, .bool x.1.a.r.dead, .slice q.s0.a q.s0.n q.s0.cap, .slice q.s1.a q.s1.n q.s1.cap, .slice q.s2.a q.s2.n q.s2.cap, .slice q.s3.a q.s3.n q.s3.cap, .int .i64 x.1.a.pv], .bool (x.1.h != 0), .int .i64 x.2])) W ∧ (Go.loadVar 42 ⟨w.heap.size + 1, 0, none⟩).run Tryd.prog W = .ok (.agg #[.int .i64 x.1.a.r.ver, .int .i64 x.1.a.r.rate, .string x.1.a.r.lo, .string x.1.a.r.hi, .bool x.1.a.r.all, .bool x.1.a.r.dead, .slice q.s0.a q.s0.n q.s0.cap, .slice q.s1.a q.s1.n q.s1.cap, .slice q.s2.a q.s2.n q.s2.cap, .slice q.s3.a q.s3.n q.s3.cap, .int .i64 x.1.a.pv]) W)) (effs := [6])
    (tab := [⟨1, fun _ => [.pointer (some ⟨w1.heap.size, 1, none⟩)], fun _ => .agg #[.int .i64 x.1.a.r.ver, .int .i64 x.1.a.r.rate, .string x.1.a.r.lo, .string x.1.a.r.hi, .bool x.1.a.r.all, .bool x.1.a.r.dead, .slice q.s0.a q.s0.n q.s0.cap, .slice q.s1.a q.s1.n q.s1.cap, .slice q.s2.a q.s2.n q.s2.cap, .slice q.s3.a q.s3.n q.s3.cap, .int .i64 x.1.a.pv], .read⟩,
      ⟨3, fun _ => [.pointer (some ⟨w1.heap.size, 0, none⟩)], fun _ => .int .i64 x.1.h, .read⟩,
      ⟨4, fun _ => [.int .i64 x.1.h, .int .i64 0], fun _ => .bool (x.1.h != 0), .pure⟩,
      ⟨6, fun _ => [.pointer (some ⟨w.heap.size + 1, 0, none⟩), .agg #[.int .i64 x.1.a.r.ver, .int .i64 x.1.a.r.rate, .string x.1.a.r.lo, .string x.1.a.r.hi, .bool x.1.a.r.all, .bool x.1.a.r.dead, .slice q.s0.a q.s0.n q.s0.cap, .slice q.s1.a q.s1.n q.s1.cap, .slice q.s2.a q.s2.n q.s2.cap, .slice q.s3.a q.s3.n q.s3.cap, .int .i64 x.1.a.pv]], fun _ => undef, .put⟩])
    (vs := [([], fun _ => .pointer (some ⟨w1.heap.size, 1, none⟩)), ([], fun _ => .agg #[.int .i64 x.1.a.r.ver, .int .i64 x.1.a.r.rate, .string x.1.a.r.lo, .string x.1.a.r.hi, .bool x.1.a.r.all, .bool x.1.a.r.dead, .slice q.s0.a q.s0.n q.s0.cap, .slice q.s1.a q.s1.n q.s1.cap, .slice q.s2.a q.s2.n q.s2.cap, .slice q.s3.a q.s3.n q.s3.cap, .int .i64 x.1.a.pv]), ([], fun _ => .pointer (some ⟨w1.heap.size, 0, none⟩)), ([], fun _ => .int .i64 x.1.h), ([], fun _ => .bool (x.1.h != 0)), ([], fun _ => .int .i64 x.2), ([], fun _ => undef), ([], fun _ => .bool (x.1.h != 0)), ([], fun _ => .int .i64 x.2)])
    (by kernel_rfl) ⟨by kernel_rfl, ⟨FreeV.d_load _ rfl rfl (fun β bs W hS hd => load_mid (sub := x.1.a.row q) (Sp.ageAt (HS.out.later (hS.one ((hd 0 6 rfl).2 (.inl (by kernel_rfl)))))) sh42),
      FreeV.d_load _ rfl rfl (fun β bs W hS hd => load_3 hS.cell),
      FreeV.d_binc _ rfl rfl (fun _ xo w => cmp_neq3c xo w rfl),
      FreeV.d_store _ rfl rfl 0 rfl (fun β bs W hS hd => ⟨_, (HSt.out W (hS.one ((hd 0 6 rfl).2 (.inr rfl)))).1, fun e => (by rw [set_at ((hd 0 6 rfl).2 (.inr rfl))] at e; cases e), fun _ => (HSt.out W (hS.one ((hd 0 6 rfl).2 (.inr rfl)))).2, HCk.out W (hS.one ((hd 0 6 rfl).2 (.inr rfl))) hS.cell⟩),
      trivial⟩,
      fun β => by kernel_rfl, fun β => by kernel_rfl, by kernel_rfl, fun β => by kernel_rfl, by kernel_rfl⟩ (one_start (HS.out.cell (i := 0) rfl)) (fun β => Free.from_ 18 [.pointer (some ⟨w1.heap.size, 1, none⟩), .agg #[.int .i64 x.1.a.r.ver, .int .i64 x.1.a.r.rate, .string x.1.a.r.lo, .string x.1.a.r.hi, .bool x.1.a.r.all, .bool x.1.a.r.dead, .slice q.s0.a q.s0.n q.s0.cap, .slice q.s1.a q.s1.n q.s1.cap, .slice q.s2.a q.s2.n q.s2.cap, .slice q.s3.a q.s3.n q.s3.cap, .int .i64 x.1.a.pv], .pointer (some ⟨w1.heap.size, 0, none⟩), .int .i64 x.1.h, .bool (x.1.h != 0), .int .i64 x.2] ++ [(7, .bool (x.1.h != 0)), (8, .int .i64 x.2)]) (fun β => by kernel_rfl) ?_
  intro β w4 h4
  obtain ⟨HX, HY⟩ := h4.two rfl
  have HE := Lib.hid HX
  have HF := Lib.hid HY
  clear h4 HX HY HSt HS
  rw [FreeX.puts_append, Free.puts_from _ _ _ (Nat.le_of_ble_eq_true rfl)]
  simp only [List.take_succ_cons, List.take_zero, List.drop_succ_cons, List.drop_zero, List.cons_append, List.nil_append, List.length_cons, List.length_nil, Nat.reduceAdd]
  unfold Free.puts
  simp only [List.foldl_cons, List.foldl_nil]
  go_wp2_with fail
  exact bodyPost_ret (res_ctt (.bool (x.1.h != 0)) (.int .i64 x.2) Tryd.results16 rfl rfl rfl HF.out) rfl HE.out
end
end Go.Proofs.YtbcpdkmbbgcfbaaDoor
