/- What plan.Relink answers of any row of towers. Conditions: 1 to 100 towers of at most 100 cells. -/
import Derived.Test.YtjlifkhpohfiaaaTf
namespace Go.Proofs.Ytjlifkhpohfiaaa
open Go.RowKit Go.Op
set_option maxRecDepth 100000

theorem enter_14 (xs : Array Value) (w : World) : (callFunc 14 xs).run Try.prog w = .ok (.enter 14 xs) w := by kernel_rfl
/-- A swap: a cell, what it holds, what it is to hold. -/
abbrev Sw := Int × Int × Int
def swc (s : Sw) : List Value := [.int .i64 s.1, .int .i64 s.2.1, .int .i64 s.2.2]
def swv (c o n : Int) : Value := .agg #[.int .i64 c, .int .i64 o, .int .i64 n]
def swRow (l : List Sw) : List Value := l.flatMap swc
theorem swRow_snoc (l : List Sw) (s : Sw) : swRow (l ++ [s]) = swRow l ++ swc s := by simp [swRow]
theorem build_54 (c o n : Int) (w : World) : (Instr.build 54 #[(0, .int .i64 c), (1, .int .i64 o), (2, .int .i64 n)]).run Try.prog w = .ok (swv c o n) w := by
  unfold swv
  go_simp
theorem row39 (w : World) (c o n : Int) : (Instr.buildSlice 39 1 #[(0, swv c o n)]).run Try.prog w = .ok (.slice (some ⟨w.heap.size, 0, none⟩) 1 1) (w.alloc (.cells (swc (c, o, n)).toArray 54)) := by
  unfold swv swc
  go_simp
theorem sk39 : SK 39 54 3 := sk_of (bytes := 24) (z := .agg #[.int .i64 0, .int .i64 0, .int .i64 0]) Try.underlying39 (by kernel_rfl) rfl (by decide) (by decide)
/-- The swaps of a tower: of its first cells. -/
def swap1 (l : List (Tw × Ts)) (ver : Int) (i : Nat) (t : Tw) (k : Nat) : List Sw := match t.cells[k]?, t.words[k]? with
  | some c, some o => if tto o = leadsT l (i : Int) (k : Int) then [] else [(c, o, tword (leadsT l (i : Int) (k : Int)) ver)]
  | _, _ => []
def swapsI (l : List (Tw × Ts)) (ver : Int) (i : Nat) (t : Tw) (m : Nat) : List Sw := (List.range m).flatMap (swap1 l ver i t)
theorem swapsI_succ (l : List (Tw × Ts)) (ver : Int) (i : Nat) (t : Tw) (m : Nat) : swapsI l ver i t (m + 1) = swapsI l ver i t m ++ swap1 l ver i t m := by simp [swapsI, List.range_succ]
def swapsT (l : List (Tw × Ts)) (ver : Int) (i : Nat) : List Sw := match l[i]? with
  | some x => if x.1.gone then [] else swapsI l ver i x.1 (min x.1.cells.length x.1.words.length)
  | none => []
def swapsL (l : List (Tw × Ts)) (ver : Int) (j : Nat) : List Sw := (List.range j).flatMap (swapsT l ver)
theorem swapsL_succ (l : List (Tw × Ts)) (ver : Int) (j : Nat) : swapsL l ver (j + 1) = swapsL l ver j ++ swapsT l ver j := by simp [swapsL, List.range_succ]
/-- Swaps of the call's own, beside a tower in a variable. -/
structure RSt (w : World) (zx : Nat) (row : List Value) (a : Option Addr) (m c : Nat) (xs : List Value) (W : World) : Prop where
  bel : Below w.heap.size w W
  own : W.ownsRow w.heap.size 54 3 (.slice a m c) m xs
  var : SVar W zx row
  ap : (Value.slice a m c).ownBlock ≠ some zx
  zlo : w.heap.size ≤ zx
section
variable {w W W1 : World} {zx m c : Nat} {row xs : List Value} {a : Option Addr}
theorem RSt.later (h : RSt w zx row a m c xs W) (hb : Below W.heap.size W W1) : RSt w zx row a m c xs W1 :=
  ⟨h.bel.trans (hb.mono h.bel.size), own_later h.own hb, h.var.later hb, h.ap, h.zlo⟩
theorem RSt.app (h : RSt w zx row a m c xs W) (s : Sw) (g : Nat) (hg : W.rangeAt g 0 (swc s)) (hm : m + 1 ≤ 1000000) (ty : TypeId) :
    ∃ a' c' w', (Builtin.append_ #[39, 39] ty #[.slice a m c, .slice (some ⟨g, 0, none⟩) 1 1]).run Try.prog W = .ok (.slice a' (m + 1) c') w' ∧ RSt w zx row a' (m + 1) c' (xs ++ swc s) w' := by
  obtain ⟨a', c', w', h1, h2, h3, h4, h5, h6⟩ := sk39.app h.own h.bel.size g (swc s) hg rfl (by intro u hu; simp [swc] at hu; rcases hu with rfl | rfl | rfl <;> rfl) hm ty
  have hz := h.var.lt
  refine ⟨a', c', w', h1, h.bel.trans h4, h2, h.var.same h3 (h5 zx hz h.ap), fun e => ?_, h.zlo⟩
  rcases h6 with e2 | e2
  · exact h.ap (e2.symm.trans e)
  · have e3 : W.heap.size = zx := Option.some.inj (e2.symm.trans e)
    omega
end
def FRow (xs : List Value) : Fact := fun v _ _ W => ∃ g, v = .slice (some ⟨g, 0, none⟩) 1 1 ∧ g < W.heap.size ∧ W.rangeAt g 0 xs
theorem frow_st (xs : List Value) : Stays (FRow xs) := fun _ _ _ _ _ h hb => by
  obtain ⟨g, e, hl, hr⟩ := h
  exact ⟨g, e, Nat.lt_of_lt_of_le hl hb.size, rangeAt_same hr (hb.block g hl)⟩
theorem frow_new (W : World) (row : List Value) (ty : TypeId) : FRow row (.slice (some ⟨W.heap.size, 0, none⟩) 1 1) W.heap.size (W.alloc (.cells row.toArray ty)).heap.size (W.alloc (.cells row.toArray ty)) := ⟨_, rfl, (snew W row ty).lt, (snew W row ty).at_⟩
def P11 (w : World) (zx : Nat) (row : List Value) (m : Nat) (xs : List Value) (β : Nat → Value) (W : World) : Prop := ∃ a' c', β 12 = .slice a' (m + 1) c' ∧ RSt w zx row a' (m + 1) c' xs W
theorem r11_last {w w2 W : World} {zx m c : Nat} {row : List Value} {S : List Sw} {s : Sw} {a : Option Addr} {bs : List Bool} {β : Nat → Value} (hS : SGL w2 [(11, FRow (swc s))] 1 (P11 w zx row m (swRow (S ++ [s]))) bs β W) (b1 : bs[1]? = some false) (b0 : bs[0]? = some true) (hR : RSt w zx row a m c (swRow S) w2) (hm : m + 1 ≤ 1000000) (ty : TypeId) :
    ∃ u w', (Builtin.append_ #[39, 39] ty #[.slice a m c, β 11]).run Try.prog W = .ok u w' ∧ SGL w2 [(11, FRow (swc s))] 1 (P11 w zx row m (swRow (S ++ [s]))) (bs.set 1 true) (FreeV.upd β 12 u) w' := by
  obtain ⟨iv, h⟩ := hS.pre b1
  obtain ⟨g, e, -, hr⟩ := h.at_ 0 11 _ rfl b0
  obtain ⟨a', c', w', h1, h2⟩ := (hR.later h.bel).app s g hr hm ty
  exact ⟨_, w', by rw [e]; exact h1, SGL.last b1 ⟨a', c', FreeV.upd_same _ _, by rw [swRow_snoc]; exact h2⟩⟩
set_option maxHeartbeats 4000000 in
theorem relink_any (w : World) (a : Option Addr) (cap : Nat) (l : List (Tw × Ts)) (hT : TRow w a l) (hcap : l.length ≤ cap) (h0 : 0 < l.length) (hn100 : l.length ≤ 100) (hc100 : ∀ x, x ∈ l → x.1.cells.length ≤ 100) (ver : Int) :
    Calls Try.prog 17 #[.slice a l.length cap, .int .i64 ver] w fun e w' => ∃ oa oc, e = .returned (.slice oa (swapsL l ver l.length).length oc) ∧ w'.ownsRow w.heap.size 54 3 (.slice oa (swapsL l ver l.length).length oc) (swapsL l ver l.length).length (swRow (swapsL l ver l.length)) ∧ Below w.heap.size w w' := by
  obtain ⟨n, hn⟩ : ∃ n, n = l.length := ⟨_, rfl⟩
  have HT := Lib.hid hT
  have HN := Lib.hid (⟨hn, hcap, h0, hc100⟩ : _ ∧ _ ∧ _ ∧ _)
  rw [← hn] at h0 hn100 ⊢
  have mixed : Try.prog.follows .mixedOrders = true := by kernel_rfl
  have hn2 : (n : Int) ≤ 100 := by omega
  obtain ⟨SL, hSL⟩ : ∃ SL, SL = swapsL l ver n := ⟨_, rfl⟩
  have HSL := Lib.hid hSL
  rw [← hSL]
  clear hT hcap hn hc100 hSL
  go_enter Try.func17, Try.ntmps17
  go_wp2_with fail
  go_loopw [5, 13] (fun ov iv wr => ∃ (i : Nat) (oa : Option Addr) (oc : Nat) (S : List Sw), iv = .int .i64 (i : Int) ∧ ov = .slice oa S.length oc ∧ i ≤ n ∧ Hid (S = swapsL l ver i ∧ S.length ≤ 100 * i ∧ Below w.heap.size w wr ∧ wr.ownsRow w.heap.size 54 3 (.slice oa S.length oc) S.length (swRow S))) (fun _ iv _ => n - (intOf iv).toNat)
  case atStart => exact ⟨0, none, 0, [], rfl, rfl, Nat.zero_le _, Lib.hid ⟨rfl, Nat.zero_le _, Below.refl _ _, World.ownsRow_nil _ _ _ _⟩⟩
  case round =>
    obtain ⟨i, oa, oc, S, rfl, rfl, hi, HX⟩ := hrel
    obtain ⟨wo, hwo⟩ : ∃ wo, wo = wr := ⟨_, rfl⟩
    subst hwo
    by_cases hlt : i < n
    · have hlt2 : (i : Int) < (n : Int) := by omega
      obtain ⟨⟨x, q⟩, hx⟩ : ∃ x, l[i]? = some x := ⟨_, List.getElem?_eq_getElem (by rw [← HN.out.1]; exact hlt)⟩
      have hTo := HT.out.later HX.out.2.2.1
      obtain ⟨g, o, ea, hgl, hr⟩ := hTo.at_ hx
      have hx100 : x.cells.length ≤ 100 := HN.out.2.2.2 _ (List.mem_of_getElem? hx)
      have hld := load_mid hr sh57
      have hat : ∀ W, (Instr.indexAt 28 (.slice a n cap) (.int .i64 (i : Int))).run Try.prog W = .ok (.pointer (some ⟨g, o + i * 4, none⟩)) W := fun W => by rw [ea]; exact at_28 g o n cap i hlt W
      obtain ⟨w2, hw2⟩ : ∃ W, W = wo.alloc (.cells (x.row q).toArray 57) := ⟨_, rfl⟩
      have hb2 : Below wo.heap.size wo w2 := by rw [hw2]; exact al_below _ _
      obtain ⟨zx, hzx⟩ : ∃ z, z = wo.heap.size := ⟨_, rfl⟩
      have HR0 : Hid (RSt w zx (x.row q) oa S.length oc (swRow S) w2) := Lib.hid ⟨HX.out.2.2.1.trans (hb2.mono HX.out.2.2.1.size), own_later HX.out.2.2.2 hb2, by rw [hw2, hzx]; exact snew _ _ _, fun e => by
        have := (World.ownsRow.lt HX.out.2.2.2 _ e).2
        omega, by rw [hzx]; exact HX.out.2.2.1.size⟩
      have HTx : Hid (TAt w x q ∧ Below w.heap.size w w2) := Lib.hid ⟨HT.out.lk _ (List.mem_of_getElem? hx), HR0.out.bel⟩
      have HXx : Hid (swapsT l ver i = if x.gone then [] else swapsI l ver i x (min x.cells.length x.words.length)) := Lib.hid (by unfold swapsT; rw [hx])
      have HXs : Hid (S = swapsL l ver i ∧ S.length ≤ 100 * i) := Lib.hid ⟨HX.out.1, HX.out.2.1⟩
      have HW := Lib.hid hw2.symm
      have HZ := Lib.hid hzx.symm
      have c3 := HR0.out.var.cell (i := 3) rfl
      have c1 := HR0.out.var.cell (i := 1) rfl
      have c2 := HR0.out.var.cell (i := 2) rfl
      rw [hzx] at c1 c2 c3
      simp only [Tw.row] at hld HW
      clear hx hTo ea hgl hr hb2 hw2 hzx HX
      obtain ⟨m, hm⟩ : ∃ m, m = S.length := ⟨_, rfl⟩
      rw [← hm] at HR0 HXs ⊢
      have hmi : m ≤ 100 * i := HXs.out.2
      cases hg : x.gone with
      | true =>
        rw [hg] at c3 hld HW
        have HE : Hid (S = swapsL l ver (i + 1) ∧ S.length ≤ 100 * (i + 1) ∧ Below w.heap.size w w2 ∧ w2.ownsRow w.heap.size 54 3 (.slice oa S.length oc) S.length (swRow S)) := Lib.hid ⟨by rw [swapsL_succ, HXx.out, hg]; simpa using HXs.out.1, by omega, HR0.out.bel, by rw [← hm]; exact HR0.out.own⟩
        rw [hm]
        clear HR0 HXs HXx HTx hmi hm hg c1 c2
        go_wp2_with (first | rw [HW.out] | ((with_reducible refine load_run ?_ (.tmp 16) 57 ?_ ?_ hld ?_); exact rfl; exact rfl; exact rfl) | fail)
        go_roundw
        case rel => exact ⟨i + 1, oa, oc, S, by simp, rfl, by omega, HE⟩
        case measure => simp [intOf]; omega
      | false =>
        rw [hg] at c3 hld HW HXx
        obtain ⟨M, hM⟩ : ∃ M, M = min x.cells.length x.words.length := ⟨_, rfl⟩
        have hMM : min (x.cells.length : Int) (x.words.length : Int) = (M : Int) := by omega
        have hM100 : M ≤ 100 := by omega
        have HMx : Hid (M ≤ x.cells.length ∧ M ≤ x.words.length ∧ swapsT l ver i = swapsI l ver i x M) := Lib.hid ⟨by omega, by omega, by rw [HXx.out, hM]; rfl⟩
        have hcl : (x.cells.length : Int) ≤ 100 := by have := hx100; omega
        have hwl : (x.words.length : Int) ≤ 1000000 := by have h5 : x.words.length ≤ 1000000 := HTx.out.1.wf; omega
        have HMM := Lib.hid hMM
        have HR0' : Hid (m = S.length ∧ RSt w zx (x.row q) oa m oc (swRow S) w2) := Lib.hid ⟨hm, HR0.out⟩
        clear HXx hM hMM HR0 hg hx100
        go_wp2_with (first | rw [HW.out] | rw [HMM.out] | ((with_reducible refine load_run ?_ (.tmp 16) 57 ?_ ?_ hld ?_); exact rfl; exact rfl; exact rfl) | fail)
        rw [HZ.out]
        clear c1 c2 c3 hld HW
        go_loopw [5, 27] (fun ov kv W => ∃ (k : Nat) (oa : Option Addr) (mm oc : Nat) (S2 : List Sw), kv = .int .i64 (k : Int) ∧ ov = .slice oa mm oc ∧ k ≤ M ∧ mm ≤ 100 * i + k ∧ Hid (mm = S2.length ∧ S2 = S ++ swapsI l ver i x k ∧ RSt w zx (x.row q) oa mm oc (swRow S2) W)) (fun _ kv _ => M - (intOf kv).toNat)
        case atStart => exact ⟨0, oa, m, oc, S, rfl, by rw [← HR0'.out.1], Nat.zero_le _, by omega, Lib.hid ⟨HR0'.out.1, by simp [swapsI], HR0'.out.2⟩⟩
        case round =>
          clear HR0'
          obtain ⟨k, oa, m, oc, S2, rfl, rfl, hk, hmk, HY⟩ := hrel
          by_cases hkM : k < M
          · have hkM2 : (k : Int) < (M : Int) := by omega
            have hbw := HY.out.2.2.bel
            obtain ⟨old, hold⟩ : ∃ old, x.words[k]? = some old := ⟨_, List.getElem?_eq_getElem (by have := HMx.out.2.1; omega)⟩
            obtain ⟨ce, hce⟩ : ∃ ce, x.cells[k]? = some ce := ⟨_, List.getElem?_eq_getElem (by have := HMx.out.1; omega)⟩
            have HR := Lib.hid HY.out.2.2
            obtain ⟨gw, ow, ew, hgw, hcw⟩ := (HTx.out.1.later hbw).ws.at_ hold
            obtain ⟨gc, oc2, ec, hgc, hcc⟩ := (HTx.out.1.later hbw).cs.at_ hce
            obtain ⟨to_, hto⟩ : ∃ t, t = leadsT l (i : Int) (k : Int) := ⟨_, rfl⟩
            have hkw : k < x.words.length := by have := HMx.out.2.1; omega
            have hkc : k < x.cells.length := by have := HMx.out.1; omega
            have HAt : Hid ((∀ W, (Instr.indexAt 35 (.slice q.wa x.words.length q.wc) (.int .i64 (k : Int))).run Try.prog W = .ok (.pointer (some ⟨gw, ow + k, none⟩)) W) ∧ (∀ W, Below wr.heap.size wr W → W.cell? ⟨gw, ow + k, none⟩ = some (.int .i64 old)) ∧ 0 < 1) := Lib.hid ⟨fun W => by rw [ew]; exact at_35 gw ow _ _ k hkw W, fun W hW => by rw [hW.cell (p := ⟨gw, ow + k, none⟩) hgw]; exact hcw, by decide⟩
            have HAt2 : Hid ((∀ W, (Instr.indexAt 35 (.slice q.ca x.cells.length q.cc) (.int .i64 (k : Int))).run Try.prog W = .ok (.pointer (some ⟨gc, oc2 + k, none⟩)) W) ∧ gc < wr.heap.size ∧ wr.cell? ⟨gc, oc2 + k, none⟩ = some (.int .i64 ce)) := Lib.hid ⟨fun W => by rw [ec]; exact at_35 gc oc2 _ _ k hkc W, hgc, hcc⟩
            have HL : Hid (∀ W, Below wr.heap.size wr W → Calls Try.prog 14 #[.slice a n cap, .int .i64 (i : Int), .int .i64 (k : Int)] W fun e w' => e = .returned (.int .i64 to_) ∧ Below W.heap.size W w') := Lib.hid fun W hW => by
              have := leadsT_any W a cap l (HT.out.later (hbw.trans (hW.mono hbw.size))) HN.out.2.1 HN.out.2.2.1 (i : Int) (k : Int)
              rw [← HN.out.1, ← hto] at this
              exact this
            have HSw : Hid (swap1 l ver i x k = if tto old = to_ then [] else [(ce, old, tword to_ ver)]) := Lib.hid (by unfold swap1; rw [hce, hold, hto])
            have HM : Hid (m + 1 ≤ 1000000) := Lib.hid (by omega)
            have HYe : Hid (m = S2.length ∧ S2 = S ++ swapsI l ver i x k) := Lib.hid ⟨HY.out.1, HY.out.2.1⟩
            have htt := fun w => tto_any old w
            clear HY hbw ew hgw hcw ec hgc hcc hto hkw hkc hold hce
            go_wp2_with fail
            refine FreeV.region_puts (S := fun _ _ W => Below wr.heap.size wr W) (effs := [])
              (tab := [⟨1, fun _ => [.pointer (some ⟨zx, 2, none⟩)], fun _ => .slice q.wa x.words.length q.wc, .read⟩,
                ⟨3, fun _ => [.slice q.wa x.words.length q.wc, .int .i64 (k : Int)], fun _ => .pointer (some ⟨gw, ow + k, none⟩), .pure⟩,
                ⟨4, fun _ => [.pointer (some ⟨gw, ow + k, none⟩)], fun _ => .int .i64 old, .read⟩,
                ⟨8, fun _ => [.func (.func 14) #[] #[], .slice a n cap, .int .i64 (i : Int), .int .i64 (k : Int)], fun _ => .int .i64 to_, .ask⟩])
              (vs := [([], fun _ => .pointer (some ⟨zx, 2, none⟩)), ([], fun _ => .slice q.wa x.words.length q.wc), ([], fun _ => .int .i64 (k : Int)), ([], fun _ => .pointer (some ⟨gw, ow + k, none⟩)), ([], fun _ => .int .i64 old), ([], fun _ => .slice a n cap), ([], fun _ => .int .i64 (i : Int)), ([], fun _ => .int .i64 (k : Int)), ([], fun _ => .int .i64 to_), ([], fun _ => .int .i64 old), ([], fun _ => .int .i64 to_)])
              (by kernel_rfl) ⟨by kernel_rfl, ⟨FreeV.d_load _ rfl rfl (fun β bs W hS hd => load_35 ((HR.out.later hS).var.cell (i := 2) rfl)),
                FreeV.d_at _ rfl rfl (fun _ W => HAt.out.1 W),
                FreeV.d_load _ rfl rfl (fun β bs W hS hd => load_3 (HAt.out.2.1 W hS)),
                d_ask3 rfl rfl enter_14 (fun β bs W hS hd => (HL.out W hS).mono fun e w' h => ⟨h.1, hS.trans (h.2.mono hS.size)⟩),
                trivial⟩,
                fun β => by kernel_rfl, fun β => by kernel_rfl, by kernel_rfl, fun β => by kernel_rfl, by kernel_rfl⟩ (Below.refl _ _).drew (fun β => Free.from_ 30 [.pointer (some ⟨zx, 2, none⟩), .slice q.wa x.words.length q.wc, .int .i64 (k : Int), .pointer (some ⟨gw, ow + k, none⟩), .int .i64 old, .slice a n cap, .int .i64 (i : Int), .int .i64 (k : Int), .int .i64 to_] ++ [(9, .int .i64 old), (10, .int .i64 to_)]) (fun β => by kernel_rfl) ?_
            intro β w4 h4
            rw [FreeX.puts_append, Free.puts_from _ _ _ (Nat.le_of_ble_eq_true rfl)]
            simp only [List.take_succ_cons, List.take_zero, List.drop_succ_cons, List.drop_zero, List.cons_append, List.nil_append, List.length_cons, List.length_nil, Nat.reduceAdd]
            unfold Free.puts
            simp only [List.foldl_cons, List.foldl_nil]
            have HR4 := Lib.hid (HR.out.later h4)
            have HAt3 : Hid ((∀ W, (Instr.indexAt 35 (.slice q.ca x.cells.length q.cc) (.int .i64 (k : Int))).run Try.prog W = .ok (.pointer (some ⟨gc, oc2 + k, none⟩)) W) ∧ ∀ W, Below w4.heap.size w4 W → W.cell? ⟨gc, oc2 + k, none⟩ = some (.int .i64 ce)) := Lib.hid ⟨HAt2.out.1, fun W hW => by
              rw [hW.cell (p := ⟨gc, oc2 + k, none⟩) (Nat.lt_of_lt_of_le HAt2.out.2.1 h4.size), h4.cell (p := ⟨gc, oc2 + k, none⟩) HAt2.out.2.1]; exact HAt2.out.2.2⟩
            clear h4 HR HAt HAt2 HL
            go_wp2_with fail
            refine (htt _).mono ?_
            rintro e w5 ⟨rfl, rfl⟩
            clear htt
            by_cases hsw : tto old = to_
            · have HZ2 : Hid (m = S2.length ∧ S2 = S ++ swapsI l ver i x (k + 1) ∧ RSt w zx (x.row q) oa m oc (swRow S2) w4) := Lib.hid ⟨HYe.out.1, by rw [swapsI_succ, HSw.out, if_pos hsw, List.append_nil]; exact HYe.out.2, HR4.out⟩
              rw [hsw]
              clear HSw HR4 HAt3 hsw
              go_wp2_with fail
              first
                | exact ⟨⟨k + 1, oa, m, oc, S2, by simp, rfl, by omega, by omega, HZ2⟩, by simp only [intOf]; omega⟩
                | (go_roundw
                   case rel => exact ⟨k + 1, oa, m, oc, S2, by simp, rfl, by omega, by omega, HZ2⟩
                   case measure => simp [intOf]; omega)
            · have HZ2 : Hid (S2 ++ [(ce, old, tword to_ ver)] = S ++ swapsI l ver i x (k + 1)) := Lib.hid (by rw [swapsI_succ, HSw.out, if_neg hsw, ← List.append_assoc, ← HYe.out.2])
              generalize htq : tto old = tq at hsw ⊢
              clear htq HSw
              go_wp2_with fail
              refine FreeV.region_puts (S := SGL w4 [(11, FRow (swc (ce, old, tword to_ ver)))] 1 (P11 w zx (x.row q) m (swRow (S2 ++ [(ce, old, tword to_ ver)])))) (effs := [11, 12])
                (tab := [⟨2, fun _ => [.pointer (some ⟨zx, 1, none⟩)], fun _ => .slice q.ca x.cells.length q.cc, .read⟩,
                  ⟨4, fun _ => [.slice q.ca x.cells.length q.cc, .int .i64 (k : Int)], fun _ => .pointer (some ⟨gc, oc2 + k, none⟩), .pure⟩,
                  ⟨5, fun _ => [.pointer (some ⟨gc, oc2 + k, none⟩)], fun _ => .int .i64 ce, .read⟩,
                  ⟨9, fun _ => [.func (.func 16) #[] #[], .int .i64 to_, .int .i64 ver], fun _ => .int .i64 (tword to_ ver), .ask⟩,
                  ⟨10, fun _ => [.int .i64 ce, .int .i64 old, .int .i64 (tword to_ ver)], fun _ => (swv ce old (tword to_ ver)), .read⟩,
                  ⟨11, fun _ => [(swv ce old (tword to_ ver))], fun β => (β 11), .eff⟩,
                  ⟨12, fun β => [.slice oa m oc, (β 11)], fun β => (β 12), .eff⟩])
                (vs := [([], fun _ => .slice oa m oc), ([], fun _ => .pointer (some ⟨zx, 1, none⟩)), ([], fun _ => .slice q.ca x.cells.length q.cc), ([], fun _ => .int .i64 (k : Int)), ([], fun _ => .pointer (some ⟨gc, oc2 + k, none⟩)), ([], fun _ => .int .i64 ce), ([], fun _ => .int .i64 old), ([], fun _ => .int .i64 to_), ([], fun _ => .int .i64 ver), ([], fun _ => .int .i64 (tword to_ ver)), ([], fun _ => (swv ce old (tword to_ ver))), ([11], fun l => (l.headD undef)), ([12], fun l => (l.headD undef)), ([12], fun l => (l.headD undef))])
                (by kernel_rfl) ⟨by kernel_rfl, ⟨FreeV.d_load _ rfl rfl (fun β bs W hS hd => load_35 ((HR4.out.later (hS.bel ((hd 1 12 rfl).2 (.inl (by kernel_rfl))))).var.cell (i := 1) rfl)),
                  FreeV.d_at _ rfl rfl (fun _ W => HAt3.out.1 W),
                  FreeV.d_load _ rfl rfl (fun β bs W hS hd => load_3 (HAt3.out.2 W (hS.bel ((hd 1 12 rfl).2 (.inl (by kernel_rfl)))))),
                  FreeV.d_ask2 _ rfl rfl enter_16 (fun β bs W hS hd => (tword_any to_ ver W).mono fun e w' h => ⟨h.1, h.2 ▸ hS⟩),
                  d_build3 rfl rfl (fun β bs W hS hd => build_54 _ _ _ W),
                  FreeV.d_row1 _ rfl rfl 0 rfl (fun β bs W hS hd => ⟨_, _, row39 W _ _ _, hS.step ((hd 1 12 rfl).2 (.inl (by kernel_rfl))) (by decide) rfl (al_below _ _) (frow_new W _ 54)⟩),
                  FreeV.d_app _ rfl rfl 1 rfl (fun β bs ty W hS hd => r11_last hS ((hd 1 12 rfl).2 (.inr rfl)) ((hd 0 11 rfl).1 (by kernel_rfl)) HR4.out HM.out ty),
                  trivial⟩,
                  fun β => by kernel_rfl, fun β => by kernel_rfl, by kernel_rfl, fun β => by kernel_rfl, by kernel_rfl⟩ (SGL.start 2 (by decide) (st1 (frow_st _)) (by simp)) (fun β => Free.from_ 43 [.slice oa m oc, .pointer (some ⟨zx, 1, none⟩), .slice q.ca x.cells.length q.cc, .int .i64 (k : Int), .pointer (some ⟨gc, oc2 + k, none⟩), .int .i64 ce, .int .i64 old, .int .i64 to_, .int .i64 ver, .int .i64 (tword to_ ver), (swv ce old (tword to_ ver)), (β 11), (β 12)] ++ [(5, (β 12))]) (fun β => by kernel_rfl) ?_
              intro β w5 h5
              rw [FreeX.puts_append, Free.puts_from _ _ _ (Nat.le_of_ble_eq_true rfl)]
              simp only [List.take_succ_cons, List.take_zero, List.drop_succ_cons, List.drop_zero, List.cons_append, List.nil_append, List.length_cons, List.length_nil, Nat.reduceAdd]
              unfold Free.puts
              simp only [List.foldl_cons, List.foldl_nil]
              obtain ⟨a', c', e12, hR5⟩ := h5.fin rfl
              rw [e12]
              have HZ3 : Hid (m + 1 = (S2 ++ [(ce, old, tword to_ ver)]).length ∧ S2 ++ [(ce, old, tword to_ ver)] = S ++ swapsI l ver i x (k + 1) ∧ RSt w zx (x.row q) a' (m + 1) c' (swRow (S2 ++ [(ce, old, tword to_ ver)])) w5) := Lib.hid ⟨by rw [HYe.out.1]; simp, HZ2.out, hR5⟩
              clear h5 e12 hR5 HR4 HAt3 HZ2 HYe hsw
              go_wp2_with fail
              first
                | exact ⟨⟨k + 1, a', m + 1, c', _, by simp, rfl, by omega, by omega, HZ3⟩, by simp only [intOf]; omega⟩
                | (go_roundw
                   case rel => exact ⟨k + 1, a', m + 1, c', _, by simp, rfl, by omega, by omega, HZ3⟩
                   case measure => simp [intOf]; omega)
          · have hkM2 : ¬ (k : Int) < (M : Int) := by omega
            obtain rfl : k = M := by omega
            have HE : Hid (S2 = swapsL l ver (i + 1) ∧ S2.length ≤ 100 * (i + 1) ∧ Below w.heap.size w wr ∧ wr.ownsRow w.heap.size 54 3 (.slice oa S2.length oc) S2.length (swRow S2)) := Lib.hid (by
              obtain ⟨q1, q2, q3⟩ := HY.out
              exact ⟨by rw [swapsL_succ, HMx.out.2.2, ← HXs.out.1]; exact q2, by omega, q3.bel, by rw [← q1]; exact q3.own⟩)
            have hms : m = S2.length := HY.out.1
            clear HY
            go_wp2_with fail
            first
              | exact ⟨⟨i + 1, oa, oc, S2, by simp, by rw [hms], by omega, HE⟩, by simp only [intOf]; omega⟩
              | (go_roundw
                 case rel => exact ⟨i + 1, oa, oc, S2, by simp, by rw [hms], by omega, HE⟩
                 case measure => simp [intOf]; omega)
    · have hlt2 : ¬ (i : Int) < (n : Int) := by omega
      obtain rfl : i = n := by omega
      have HE : Hid (S = SL ∧ Below w.heap.size w wo ∧ wo.ownsRow w.heap.size 54 3 (.slice oa S.length oc) S.length (swRow S)) := Lib.hid ⟨by rw [HSL.out]; exact HX.out.1, HX.out.2.2⟩
      clear HX
      go_wp2_with fail
      go_ret
      obtain ⟨rfl, h2, h3⟩ := HE.out
      exact ⟨oa, oc, rfl, h3, h2⟩
end Go.Proofs.Ytjlifkhpohfiaaa
