/- A region that searches and keeps what was found; what TowerFinds does by its port. No condition. -/
import Derived.Test.YtibimnibmengpaaDoorTw
namespace Go.Proofs.YtibimnibmengpaaDoor
open Go.RowKit Go.Op
set_option maxRecDepth 100000

theorem hx17 (zs : Array Value) (w : World) : (callFunc 17 zs).run Tryd.prog w = .ok (.enter 17 zs) w := by kernel_rfl
theorem he16 (zs : Array Value) (w : World) : (callFunc 16 zs).run Tryd.prog w = .ok (.enter 16 zs) w := by kernel_rfl
theorem alloc_38 (w : World) : (Instr.alloc 38 true (.tuple #[])).run Tryd.prog w = .ok (.pointer (some ⟨w.heap.size, 0, none⟩)) (w.alloc (.cells (nd0.row .nil).toArray 38)) := by kernel_rfl
theorem load_27 {w : World} {p : Addr} {v : Value} (h : w.cell? p = some v) : (Instr.loadAt 27 (.pointer (some p))).run Tryd.prog w = .ok v w := by go_simp
theorem at27_0 (g o n cp : Nat) (h : 0 < n) (w : World) : (Instr.indexAt 27 (.slice (some ⟨g, o, none⟩) n cp) (.int .i64 0)).run Tryd.prog w = .ok (.pointer (some ⟨g, o, none⟩)) w := at_27 g o n cp 0 h w
theorem ex3_0 (x y z : Value) (w : World) : (Instr.extract (.tuple #[x, y, z]) 0).run Tryd.prog w = .ok x w := by kernel_rfl
theorem ex3_1 (x y z : Value) (w : World) : (Instr.extract (.tuple #[x, y, z]) 1).run Tryd.prog w = .ok (nth 1 (.tuple #[x, y, z])) w := by kernel_rfl
theorem ex3_2 (x y z : Value) (w : World) : (Instr.extract (.tuple #[x, y, z]) 2).run Tryd.prog w = .ok z w := by kernel_rfl
section
variable {P : Program} {effs : List Nat} {ops : Array Oper} {S : List Bool → (Nat → Value) → World → Prop} {i : Nat} {o0 : Oper}
theorem d_get3 (ho : ops[i]? = some o0) {f : FuncId} {x a b c : Operand} {ts : Array TypeId} (hop : o0.op = .call { callee := .value x, args := #[a, b, c], argTypes := ts }) (he : ∀ zs w, (callFunc f zs).run P w = .ok (.enter f zs) w) (p : Nat) (hp : effs[p]? = some i) {va vb vc : (Nat → Value) → Value}
    (h : ∀ β bs w, S bs β w → FreeV.Due ops effs i bs → Calls P f #[va β, vb β, vc β] w fun e w' => ∃ u, e = .returned u ∧ S (bs.set p true) (FreeV.upd β i u) w') : FreeV.Does P effs ops S ⟨i, fun β => [.func (.func f) #[] #[], va β, vb β, vc β], fun β => β i, .get⟩ := by
  refine ⟨fun β u => FreeV.upd_same i u, p, hp, ?_⟩
  rintro o h1 β ρ h2 bs w hS hd
  rw [ho] at h1
  cases h1
  rw [hop] at h2
  have h3 : ρ x = .func (.func f) #[] #[] ∧ ρ a = va β ∧ ρ b = vb β ∧ ρ c = vc β := by simpa [Op.operands, Call.operands] using h2
  have hcf := he #[va β, vb β, vc β] w
  exact ⟨f, _, by simp [execOp, hop, resolve, h3.1, h3.2.1, h3.2.2.1, h3.2.2.2, invoke, go_sem, hcf], h β bs w hS hd⟩
end
/-- Within a region that searches, makes a variable and keeps in it what was found. -/
structure XS (w0 : World) (b c r pb : Nat) (Z : List Nat) (w : World) (G : List (Nat × List Value)) (kc ka : Nat) (w2 : World) (xh : Int) (x : Nd) (m2 : M) (s : Pt) (bs : List Bool) (β : Nat → Value) (W : World) : Prop where
  ord : bs[1]? = some false → bs[2]? = some false
  one : bs[0]? = some false → Below w2.heap.size w2 W ∧ bs[2]? = some false ∧ (bs[1]? = some true → ∃ z, β ka = .pointer (some ⟨z, 0, none⟩) ∧ w2.heap.size ≤ z ∧ SVar W z (nd0.row .nil))
  two : bs[0]? = some true → ∃ p t2 G2, β kc = .tuple #[.int .i64 xh, x.v p, .int .i64 0] ∧ x.d.In G2 p ∧ (w2.heap.size ≤ W.heap.size ∧ Dgo w0 b c r pb Z w t2 G G2 W m2 s) ∧ (bs[1]? = some true → ∃ z, β ka = .pointer (some ⟨z, 0, none⟩) ∧ w2.heap.size ≤ z ∧ Loc w0 b c r pb t2 G2 W z ∧ (bs[2]? = some false → SVar W z (nd0.row .nil)) ∧ (bs[2]? = some true → SVar W z (x.row p)))
section
variable {w0 : World} {b c r pb : Nat} {Z : List Nat} {w : World} {G : List (Nat × List Value)} {kc ka : Nat} {w2 : World} {xh : Int} {x : Nd} {m2 : M} {s : Pt} {bs : List Bool} {β : Nat → Value} {W : World}
theorem xs_start : XS w0 b c r pb Z w G kc ka w2 xh x m2 s [false, false, false] β w2.drew :=
  ⟨fun _ => rfl, fun _ => ⟨(Below.refl _ _).drew, rfl, fun e => (by cases e)⟩, fun e => (by cases e)⟩
theorem xs_call (h : XS w0 b c r pb Z w G kc ka w2 xh x m2 s bs β W) (hk : ka ≠ kc) (b0 : bs[0]? = some false) {t1 : Value} {G1 : List (Nat × List Value)} {m1 : M} (hD : Dgo w0 b c r pb Z w t1 G G1 w2 m1 s) {args : Array Value}
    (hcall : ∀ W, Below w2.heap.size w2 W → Calls Tryd.prog 17 args W fun e w' => ∃ t2 G2 p, e = .returned (.tuple #[.int .i64 xh, x.v p, .int .i64 0]) ∧ x.d.In G2 p ∧ Aft w0 b c r pb 0 t1 G1 W t2 G2 w' m2 s) :
    Calls Tryd.prog 17 args W fun e w' => ∃ u, e = .returned u ∧ XS w0 b c r pb Z w G kc ka w2 xh x m2 s (bs.set 0 true) (FreeV.upd β kc u) w' := by
  obtain ⟨hb, b2, hz⟩ := h.one b0
  refine (hcall W hb).mono ?_
  rintro e w' ⟨t2, G2, p, rfl, hin, ha⟩
  refine ⟨_, rfl, fun e => ?_, fun e => (by rw [set_at b0] at e; cases e), fun _ => ⟨p, t2, G2, by simp [FreeV.upd], hin, ⟨Nat.le_trans hb.size ha.but.size, (hD.later hb).aft ha⟩, fun e => ?_⟩⟩
  · rw [List.getElem?_set_ne (by decide)] at e ⊢
    exact h.ord e
  · rw [List.getElem?_set_ne (by decide)] at e
    obtain ⟨z, ez, hz1, hz2⟩ := hz e
    have hl : Loc w0 b c r pb t1 G1 W z := hD.sys.beyond hz1 hz2.lt
    obtain ⟨q1, q2⟩ := ha.svar hl hz2
    refine ⟨z, by simp [FreeV.upd, hk, ez], hz1, q2, fun _ => q1, fun e2 => ?_⟩
    rw [List.getElem?_set_ne (by decide), b2] at e2
    cases e2
theorem xs_alloc (h : XS w0 b c r pb Z w G kc ka w2 xh x m2 s bs β W) (hk : ka ≠ kc) (b1 : bs[1]? = some false) :
    ∃ u w', (Instr.alloc 38 true (.tuple #[])).run Tryd.prog W = .ok u w' ∧ XS w0 b c r pb Z w G kc ka w2 xh x m2 s (bs.set 1 true) (FreeV.upd β ka u) w' := by
  have b2 := h.ord b1
  have hb : Below W.heap.size W (W.alloc (.cells (nd0.row .nil).toArray 38)) := (Below.refl _ _).alloc (Nat.le_refl _) _
  refine ⟨_, _, alloc_38 W, fun e => (by rw [set_at b1] at e; cases e), fun e => ?_, fun e => ?_⟩
  · rw [List.getElem?_set_ne (by decide)] at e
    obtain ⟨q1, q2, -⟩ := h.one e
    exact ⟨q1.alloc q1.size _, by rw [List.getElem?_set_ne (by decide)]; exact q2, fun _ => ⟨_, by simp [FreeV.upd], q1.size, snew _ _ _⟩⟩
  · rw [List.getElem?_set_ne (by decide)] at e
    obtain ⟨p, t2, G2, e1, e2, ⟨e0, e3⟩, -⟩ := h.two e
    refine ⟨p, t2, G2, by simp [FreeV.upd, Ne.symm hk, e1], e2, ⟨Nat.le_trans e0 hb.size, e3.later hb⟩, fun _ => ⟨_, by simp [FreeV.upd], e0, e3.sys.fresh _, fun _ => snew _ _ _, fun e4 => ?_⟩⟩
    rw [List.getElem?_set_ne (by decide), b2] at e4
    cases e4
theorem xs_store (h : XS w0 b c r pb Z w G kc ka w2 xh x m2 s bs β W) (b0 : bs[0]? = some true) (b1 : bs[1]? = some true) (b2 : bs[2]? = some false) (hw : w.heap.size ≤ w2.heap.size) :
    ∃ w', (Instr.storeAt 38 (β ka) (nth 1 (β kc))).run Tryd.prog W = .ok () w' ∧ XS w0 b c r pb Z w G kc ka w2 xh x m2 s (bs.set 2 true) β w' := by
  obtain ⟨p, t2, G2, e1, e2, ⟨e0, e3⟩, e4⟩ := h.two b0
  obtain ⟨z, ez, hz1, hl, hv, -⟩ := e4 b1
  have hv := hv b2
  have hst := hv.store (row' := x.row p) rfl sh27 (x.row_one p)
  refine ⟨sput W z (x.row p), by rw [ez, e1]; exact hst, fun e => ?_, fun e => ?_, fun _ => ⟨p, t2, G2, e1, e2, ⟨Nat.le_trans e0 (But.sput _ _ _).size, e3.aside (But.sput _ _ _) hl (.inr (Nat.le_trans hw hz1))⟩, fun _ => ⟨z, ez, hz1, hl.same (But.sput _ _ _).size, fun e5 => ?_, fun _ => hv.put (row' := x.row p) rfl⟩⟩⟩
  · rw [List.getElem?_set_ne (by decide), b1] at e; cases e
  · rw [List.getElem?_set_ne (by decide), b0] at e; cases e
  · rw [set_at b2] at e5; cases e5
end
section
variable {w0 w : World} {b c r : Nat} {G : List (Nat × List Value)} {m : M} {gl ol cl gt ot ct gh oh ch n : Nat} {l : List Nod} {lows : List ByteArray} {hts : List Int} {zy zk zi : Nat}
/-- Behind TowerFinds' call of Do. -/
def FindsQ (w0 : World) (b c r : Nat) (w : World) (k : Int) (W : World) : Prop := ∃ G2 m2, ButN [b, c, r] w.heap.size w W ∧ HasE w0 b c r G2 W m2 ∧ m2.count ≤ k
theorem LocM.svarD {pb : Nat} {t1 : Value} {G0 G1 : List (Nat × List Value)} {W : World} {m1 : M} {s : Pt} {Z : List Nat} {z : Nat} {row : List Value} (hz : z ∉ Z) (hd : Dgo w0 b c r pb Z w t1 G0 G1 W m1 s) (hs : SVar w z row) : SVar W z row := hs.same hd.but.size (hd.but.block z hs.lt hz)
set_option maxHeartbeats 4000000 in
theorem finds1_any (h : Yw w0 b c r G m gl ol cl gt ot ct gh oh ch n l lows hts zy w) (t : ByteArray) (i : Nat) (hf : FindP lows t i) (sk : SVar w zk [.string t]) (si : SVar w zi [.int .i64 (i : Int)]) (zk1 : zk ∉ [b, c, r]) (zi1 : zi ∉ [b, c, r]) (L : Int) (hL : hts[0]? = some L) :
    Calls Tryd.prog 16 (#[.pointer (some ⟨w.heap.size, 0, none⟩)] ++ #[.pointer (some ⟨zy, 0, none⟩), .pointer (some ⟨zk, 0, none⟩), .pointer (some ⟨zi, 0, none⟩)]) (w.alloc (portObj b)) fun e w' => ∃ u, e = .returned u ∧ u = .iface 4 (.bool true) ∧ FindsQ w0 b c r w (m.count + (2 * ((n : Int) + L) + 1)) w' := by
  have hD := Dgo.start h.has (Z := [b, c, r]) ⟨by simp, by simp, by simp⟩
  have hg := h.good
  have hcn := hg.cnt
  have hll := hg.ll
  have hnn := h.nn
  have hn0 : 0 < n := by rw [hnn]; exact (List.getElem?_eq_some_iff.1 hg.zero).1
  obtain ⟨x0, hx0⟩ : ∃ x, l[0]? = some x := ⟨_, List.getElem?_eq_getElem (by omega)⟩
  have low0 : (⟨#[]⟩ : ByteArray) = x0.nd.low := Option.some.inj (hg.zero.symm.trans (hg.nod hx0).2.1)
  obtain ⟨j, z, m2, q1, -, q3, q4, q5, q6⟩ := hg.search hg.ok t hx0 (by rw [← low0]; exact lt_empty _)
  obtain rfl : j = i := find_is hg.up hf (hg.nod q1).2.1 q3 q4
  have hx0l : (x0.links.length : Int) = L := Option.some.inj ((hg.nod hx0).2.2.1.symm.trans hL)
  have hc2 := q6.cnt
  have hlk := (hg.hs hx0).1
  have hj : j < n := by have := (List.getElem?_eq_some_iff.1 q1).1; omega
  have hj1 : (j : Int) < (n : Int) := by omega
  have hj0 : (0 : Int) ≤ (j : Int) := by omega
  have hzz : zy ∉ [b, c, r] := by
    have := h.zne
    simp only [List.mem_cons, List.not_mem_nil, or_false]; omega
  have hn41 : (n : Int) ≤ 41 := by have := hg.few; omega
  have HQ := Lib.hid (show m2.count ≤ m.count + (2 * ((n : Int) + L) + 1) by omega)
  have HY := Lib.hid h
  have HZ := Lib.hid (⟨hzz, zk1, zi1, sk, si⟩ : _ ∧ _ ∧ _ ∧ _ ∧ _)
  have HX := Lib.hid (⟨hx0, q1, (hg.nod q1).2.1⟩ : _ ∧ _ ∧ _)
  have HS : Hid ((∀ W, Below (w.alloc (portObj b)).heap.size (w.alloc (portObj b)) W → (Instr.loadAt 27 (.pointer (some ⟨zy, 3, none⟩))).run Tryd.prog W = .ok (.slice (some ⟨gh, oh, none⟩) n ch) W ∧ (Instr.loadAt 3 (.pointer (some ⟨gh, oh, none⟩))).run Tryd.prog W = .ok (.int .i64 x0.h) W ∧ (Instr.loadAt 9 (.pointer (some ⟨zk, 0, none⟩))).run Tryd.prog W = .ok (.string t) W ∧
      Calls Tryd.prog 17 #[.pointer (some ⟨w.heap.size, 0, none⟩), .int .i64 x0.h, .string t] W fun e w' => ∃ t2 G2 p, e = .returned (.tuple #[.int .i64 z.h, z.nd.v p, .int .i64 0]) ∧ z.nd.d.In G2 p ∧ Aft w0 b c r w.heap.size 0 (.slice none 0 0) G W t2 G2 w' m2 (ptDo w b)) ∧
      Dgo w0 b c r w.heap.size [b, c, r] w (.slice none 0 0) G G (w.alloc (portObj b)) m (ptDo w b) ∧ 0 < n ∧ w.heap.size ≤ (w.alloc (portObj b)).heap.size) := by
    refine ⟨fun W hb => ?_, hD, hn0, hD.but.size⟩
    have hDW := hD.later hb
    have c3 := LocM.cellD hzz h.var.lt hDW (h.var.cell (i := 3) rfl)
    have ck := (LocM.svarD zk1 hDW sk).cell (i := 0) rfl
    have hrw := (hDW.sys.rowAt h.ha rfl).1
    exact ⟨load_27 c3, load_3 (hrw 0 _ (ints_get (l := l.map Nod.h) (by rw [List.getElem?_map, hx0]; rfl))), load_9 ck, search_call hDW.sys (ptDo_quiet w b) 60 (by omega) x0.h t (z.h, z.nd, 0) m2 q5⟩
  show Calls Tryd.prog 16 #[.pointer (some ⟨w.heap.size, 0, none⟩), .pointer (some ⟨zy, 0, none⟩), .pointer (some ⟨zk, 0, none⟩), .pointer (some ⟨zi, 0, none⟩)] (w.alloc (portObj b)) _
  have mk := mkb4
  have mixed : Tryd.prog.follows .mixedOrders = true := by kernel_rfl
  clear h hD hg hcn hll hx0 low0 q1 q3 q4 q5 q6 hf sk si zk1 zi1 hL hx0l hc2 hlk hzz hn0 hnn
  generalize w.alloc (portObj b) = wp at *
  go_enter Tryd.func16, Tryd.ntmps16
  go_wp2_with fail
  refine FreeV.region_puts (S := XS w0 b c r w.heap.size [b, c, r] w G 6 11 wp z.h z.nd m2 (ptDo w b)) (effs := [6, 11, 13])
    (tab := [⟨2, fun _ => [.pointer (some ⟨zy, 3, none⟩)], fun _ => .slice (some ⟨gh, oh, none⟩) n ch, .read⟩,
      ⟨3, fun _ => [.slice (some ⟨gh, oh, none⟩) n ch, .int .i64 0], fun _ => .pointer (some ⟨gh, oh, none⟩), .pure⟩,
      ⟨4, fun _ => [.pointer (some ⟨gh, oh, none⟩)], fun _ => .int .i64 x0.h, .read⟩,
      ⟨5, fun _ => [.pointer (some ⟨zk, 0, none⟩)], fun _ => .string t, .read⟩,
      ⟨6, fun _ => [.func (.func 17) #[] #[], .pointer (some ⟨w.heap.size, 0, none⟩), .int .i64 x0.h, .string t], fun β => (β 6), .get⟩,
      ⟨8, fun β => [(β 6)], fun _ => .int .i64 z.h, .read⟩,
      ⟨9, fun β => [(β 6)], fun β => (nth 1 (β 6)), .read⟩,
      ⟨10, fun β => [(β 6)], fun _ => .int .i64 0, .read⟩,
      ⟨11, fun _ => [], fun β => (β 11), .eff⟩,
      ⟨13, fun β => [(β 11), (nth 1 (β 6))], fun _ => undef, .put⟩])
    (vs := [([], fun _ => .pointer (some ⟨w.heap.size, 0, none⟩)), ([], fun _ => .pointer (some ⟨zy, 3, none⟩)), ([], fun _ => .slice (some ⟨gh, oh, none⟩) n ch), ([], fun _ => .pointer (some ⟨gh, oh, none⟩)), ([], fun _ => .int .i64 x0.h), ([], fun _ => .string t), ([6], fun l => l.headD undef), ([6], fun l => l.headD undef), ([], fun _ => .int .i64 z.h), ([6], fun l => nth 1 (l.headD undef)), ([], fun _ => .int .i64 0), ([11], fun l => l.headD undef), ([], fun _ => .int .i64 z.h), ([], fun _ => undef), ([], fun _ => .int .i64 0)])
    (by kernel_rfl) ⟨by kernel_rfl, ⟨FreeV.d_load _ rfl rfl (fun β bs W hS hd => (HS.out.1 W (hS.one ((hd 0 6 rfl).2 (.inl (by kernel_rfl)))).1).1),
      FreeV.d_at _ rfl rfl (fun _ w => at27_0 gh oh n ch HS.out.2.2.1 w),
      FreeV.d_load _ rfl rfl (fun β bs W hS hd => (HS.out.1 W (hS.one ((hd 0 6 rfl).2 (.inl (by kernel_rfl)))).1).2.1),
      FreeV.d_load _ rfl rfl (fun β bs W hS hd => (HS.out.1 W (hS.one ((hd 0 6 rfl).2 (.inl (by kernel_rfl)))).1).2.2.1),
      d_get3 rfl rfl hx17 0 rfl (fun β bs W hS hd => xs_call hS (by decide) ((hd 0 6 rfl).2 (.inr rfl)) HS.out.2.1 (fun W hb => (HS.out.1 W hb).2.2.2)),
      FreeV.d_extract _ rfl rfl (fun β bs W hS hd => (by obtain ⟨p, t2, G2, e, -⟩ := hS.two ((hd 0 6 rfl).1 (by kernel_rfl)); rw [e]; exact ex3_0 _ _ _ _)),
      FreeV.d_extract _ rfl rfl (fun β bs W hS hd => (by obtain ⟨p, t2, G2, e, -⟩ := hS.two ((hd 0 6 rfl).1 (by kernel_rfl)); rw [e]; exact ex3_1 _ _ _ _)),
      FreeV.d_extract _ rfl rfl (fun β bs W hS hd => (by obtain ⟨p, t2, G2, e, -⟩ := hS.two ((hd 0 6 rfl).1 (by kernel_rfl)); rw [e]; exact ex3_2 _ _ _ _)),
      FreeV.d_alloc _ rfl rfl 1 rfl (fun β bs W hS hd => xs_alloc hS (by decide) ((hd 1 11 rfl).2 (.inr rfl))),
      FreeV.d_store _ rfl rfl 2 rfl (fun β bs W hS hd => xs_store hS ((hd 0 6 rfl).1 (by kernel_rfl)) ((hd 1 11 rfl).1 (by kernel_rfl)) ((hd 2 13 rfl).2 (.inr rfl)) HS.out.2.2.2),
      trivial⟩,
      fun β => by kernel_rfl, fun β => by kernel_rfl, by kernel_rfl, fun β => by kernel_rfl, by kernel_rfl⟩ xs_start (fun β => Free.from_ 10 [.pointer (some ⟨w.heap.size, 0, none⟩), .pointer (some ⟨zy, 3, none⟩), .slice (some ⟨gh, oh, none⟩) n ch, .pointer (some ⟨gh, oh, none⟩), .int .i64 x0.h, .string t, (β 6)] ++ [(9, (β 6)), (17, .int .i64 z.h), (18, (nth 1 (β 6))), (19, .int .i64 0), (7, (β 11)), (6, .int .i64 z.h), (8, .int .i64 0)]) (fun β => by kernel_rfl) ?_
  intro β w4 h4
  rw [FreeX.puts_append, Free.puts_from _ _ _ (Nat.le_of_ble_eq_true rfl)]
  simp only [List.take_succ_cons, List.take_zero, List.drop_succ_cons, List.drop_zero, List.cons_append, List.nil_append, List.length_cons, List.length_nil, Nat.reduceAdd]
  unfold Free.puts
  simp only [List.foldl_cons, List.foldl_nil]
  obtain ⟨p, t2, G2, e6, -, ⟨-, hD4⟩, h5⟩ := h4.two rfl
  obtain ⟨zn, e11, -, -, -, h6⟩ := h5 rfl
  have sn := h6 rfl
  rw [e6, e11]
  have c3 := LocM.cellD HZ.out.1 HY.out.var.lt hD4 (HY.out.var.cell (i := 3) rfl)
  have c1 := LocM.cellD HZ.out.1 HY.out.var.lt hD4 (HY.out.var.cell (i := 1) rfl)
  have ci := (LocM.svarD HZ.out.2.2.1 hD4 HZ.out.2.2.2.2).cell (i := 0) rfl
  have chj : w4.cell? ⟨gh, oh + j, none⟩ = some (.int .i64 z.h) := (hD4.sys.rowAt (HY.out.ha.more hD4.gro.1) rfl).1 j _ (ints_get (l := l.map Nod.h) (by rw [List.getElem?_map, HX.out.2.1]; rfl))
  have clj : w4.cell? ⟨gl, ol + j, none⟩ = some (.string z.nd.low) := (hD4.sys.rowAt (HY.out.la.more hD4.gro.1) rfl).1 j _ (strs_get HX.out.2.2)
  have cn := sn.cell (i := 0) rfl
  have HE : Hid (∀ nq, FindsQ w0 b c r w (m.count + (2 * ((n : Int) + L) + 1)) (w4.drewN nq)) := fun nq => by
    have hDq := hD4.later (below_drewN w4 nq)
    exact ⟨G2, m2, hDq.but, hDq.sys.mem, HQ.out⟩
  clear h4 h5 h6 e6 e11 sn hD4 HS
  go_wp2_with fail
  go_quiet (fail)
  go_wp2_with fail
  go_ret
  exact ⟨_, rfl, rfl, HE.out _⟩
end
end Go.Proofs.YtibimnibmengpaaDoor
