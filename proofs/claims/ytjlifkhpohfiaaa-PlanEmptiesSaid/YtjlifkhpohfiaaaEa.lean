/- Which nodes go as empty: plan's answer over views. Conditions: at most 200000 views, as many entries a revision as rev.Live takes. -/
import Derived.Test.YtjlifkhpohfiaaaTj
import Derived.Test.YtjlifkhpohfiaaaEWalkE
namespace Go.Proofs.Ytjlifkhpohfiaaa
open Go.RowKit Go.Op
set_option maxRecDepth 100000

def bls (l : List Bool) : List Value := l.map .bool
theorem bls_get {l : List Bool} {i : Nat} {x : Bool} (h : l[i]? = some x) : (bls l)[i]? = some (.bool x) := by simp [bls, h]
theorem made_bls (w : World) (n : Nat) (hn : n ≤ 1000000) : ∃ W, (Instr.makeSlice 48 (.int .i64 (n : Int)) (.int .i64 (n : Int))).run Try.prog w = .ok (.slice (some ⟨w.heap.size, 0, none⟩) n n) W ∧ Hid (W.ownsRow w.heap.size 4 1 (.slice (some ⟨w.heap.size, 0, none⟩) n n) n (bls (List.replicate n false))) ∧ Hid (Below w.heap.size w W) := by
  obtain ⟨i0, hi, hz0, hz1, hz2⟩ := info_parts info4
  obtain ⟨W, h1, h2, h3⟩ := run_make_full (P := Try.prog) w w.heap.size 48 4 i0 _ 1 Try.underlying48 hi hz0 hz1 .i64 .i64 n (by rw [hz2]; omega) (by unfold maxLen; omega) (Nat.le_refl _)
  have e : (madeCells (Value.bool false).cells (n * 1)).toList = bls (List.replicate n false) := by
    rw [Nat.mul_one, show (Value.bool false).cells = #[Value.bool false] from rfl, toList_madeCells_one]
    simp [bls]
  rw [e] at h2
  exact ⟨W, h1, Lib.hid h2, Lib.hid ((Below.refl _ _).grown h3 (Nat.le_refl _) (fun k hk => by cases hk))⟩
theorem at_48_0 (g n cp k : Nat) (h : k < n) (w : World) : (Instr.indexAt 48 (.slice (some ⟨g, 0, none⟩) n cp) (.int .i64 (k : Int))).run Try.prog w = .ok (.pointer (some ⟨g, k, none⟩)) w := by
  have h1 : (k : Int) < (n : Int) := by omega
  go_simp
/-- Versions and numbers of entries that are there: does a node go as empty? -/
def gB (D : List (Int × Nat)) (lt : Int) (i : Nat) : Bool := match D[i]?, D[i-1]? with
  | some a, some b => decide (0 < i) && (decide (b.1 ≤ lt) && (decide (a.1 ≤ lt) && decide (a.2 = 0)))
  | _, _ => false
def gL (D : List (Int × Nat)) (lt : Int) : List Bool := (List.range D.length).map (gB D lt)
theorem gL_get {D : List (Int × Nat)} {lt : Int} {i : Nat} (h : i < D.length) : (gL D lt)[i]? = some (gB D lt i) := by simp [gL, h]
theorem gL_length (D : List (Int × Nat)) (lt : Int) : (gL D lt).length = D.length := by simp [gL]
def vD (l : List (Vw × Vs)) : List (Int × Nat) := l.map fun x => (x.1.rv.ver, (liveL x.1.rv.l).length)

theorem old_any (v : Vw) (q : Vs) (lt : Int) (w : World) : Calls Try.prog 39 #[v.v q, .int .i64 lt] w fun e w' => e = .returned (.bool (decide (v.rv.ver ≤ lt))) ∧ Below w.heap.size w w' := by
  obtain ⟨wa, hwa⟩ : ∃ W, W = w.alloc (.cells (v.row q).toArray 52) := ⟨_, rfl⟩
  have sv : SVar wa w.heap.size (v.row q) := by rw [hwa]; exact snew _ _ _
  have HB : Hid (Below w.heap.size w wa) := by rw [hwa]; exact Lib.hid (al_below _ _)
  have HW := Lib.hid hwa.symm
  have c6 := sv.cell (i := 6) rfl
  unfold Vw.v
  simp only [Vw.row] at HW c6
  clear hwa sv
  by_cases h : v.rv.ver ≤ lt
  · have d := decide_eq_true h
    go_enter Try.func39, Try.ntmps39
    go_wp2_with (first | rw [HW.out] | fail)
    go_ret
    exact ⟨by first | rfl | (rw [d]; rfl), HB.out⟩
  · have d := decide_eq_false h
    go_enter Try.func39, Try.ntmps39
    go_wp2_with (first | rw [HW.out] | fail)
    go_ret
    exact ⟨by first | rfl | (rw [d]; rfl), HB.out⟩
/-- A load in a region with guards, by its run. -/
theorem load_rung {P : Program} {w : World} {ops : Array Oper} {rest : List Oper} {o : Oper} {a : Act} {Q : Exit → Act → World → Prop} {v u : Value} (hgd : Region.wanted o (yielded ops a.tmps) = true) (x : Operand) (t : TypeId)
    (ho : o.op = .load t x) (hx : a.eval x = v) (hr : (Instr.loadAt t v).run P w = .ok u w) (h : wpList P ops Q rest (a.put o.dst u) w) : wpList P ops Q (o :: rest) a w := by
  refine wpList_step fun K hK => ?_
  rw [if_pos hgd]
  unfold Oper.wp execOp
  simp only [ho, hx, Sem.run_bind, Sem.run_pure, Result.andThen_ok, hr]
  exact hK _ _ h
theorem rv_mid (v : Vw) (q : Vs) : ∀ k u, (v.rv.row q.s)[k]? = some u → (v.row q)[6 + k]? = some u := fun k u h => by
  have : v.row q = [.int .i64 v.h, .string v.nd.low, .int .i64 v.nd.head, .slice q.na v.nd.nx.length q.nc, .slice q.la v.links.length q.lc, .int .i64 v.head] ++ v.rv.row q.s := rfl
  rw [this, List.getElem?_append_right (by simp), List.length_cons]
  simpa using h
set_option maxHeartbeats 800000 in
theorem empties_any (w : World) (a : Option Addr) (cap : Nat) (l : List (Vw × Vs)) (hV : VRow w a l) (hl : ∀ x, x ∈ l → x.1.rv.l.length ≤ 1000000) (lt : Int) :
    Calls Try.prog 21 #[.slice a l.length cap, .int .i64 lt] w fun e w' => ∃ g, e = .returned (.slice (some ⟨g, 0, none⟩) l.length l.length) ∧ w'.ownsRow w.heap.size 4 1 (.slice (some ⟨g, 0, none⟩) l.length l.length) l.length (bls (gL (vD l) lt)) ∧ Below w.heap.size w w' := by
  have few := hV.few
  obtain ⟨n, hn⟩ : ∃ n, n = l.length := ⟨_, rfl⟩
  have HV := Lib.hid (⟨hV, hl⟩ : _ ∧ _)
  have HN := Lib.hid hn
  rw [← hn] at few ⊢
  clear hV hl hn
  have hDn : (vD l).length = n := by rw [HN.out]; simp [vD]
  have HD := Lib.hid hDn
  clear hDn
  obtain ⟨W, hmk, ho, hb⟩ := made_bls w n (by omega)
  obtain ⟨gt, hgt⟩ : ∃ g, g = w.heap.size := ⟨_, rfl⟩
  rw [← hgt] at hmk ho
  have HG := Lib.hid hgt
  clear hgt
  go_enter Try.func21, Try.ntmps21
  go_wp2_with fail
  go_loopw [13] (fun iv wr => ∃ (j : Nat) (xs : List Bool), iv = .int .i64 (j : Int) ∧ j ≤ n ∧ Hid (Below w.heap.size w wr ∧ wr.ownsRow gt 4 1 (.slice (some ⟨gt, 0, none⟩) n n) n (bls xs) ∧ xs.length = n ∧ ∀ k, k < j → xs[k]? = some (gB (vD l) lt k))) (fun iv _ => n - (intOf iv).toNat)
  case atStart => exact ⟨0, _, rfl, Nat.zero_le _, Lib.hid ⟨hb.out, ho.out, by simp, fun k hk => absurd hk (Nat.not_lt_zero _)⟩⟩
  case round =>
    obtain ⟨j, xs, rfl, hj, HX⟩ := hrel
    by_cases hlt : j < n
    · have hlt2 : (j : Int) < (n : Int) := by omega
      obtain ⟨⟨x, q⟩, hx⟩ : ∃ x, l[j]? = some x := ⟨_, List.getElem?_eq_getElem (by rw [← HN.out]; exact hlt)⟩
      obtain ⟨g, o, ea, hg, hr⟩ := (HV.out.1.later HX.out.1).at_ hx
      have hld := load_mid hr sh52
      have hat : ∀ W, (Instr.indexAt 25 (.slice a n cap) (.int .i64 (j : Int))).run Try.prog W = .ok (.pointer (some ⟨g, o + j * 16, none⟩)) W := fun W => by rw [ea]; exact at_25 g o n cap j hlt W
      obtain ⟨w2, hw2⟩ : ∃ W, W = wr.alloc (.cells (x.row q).toArray 52) := ⟨_, rfl⟩
      have hb2 : Below wr.heap.size wr w2 := by rw [hw2]; exact al_below _ _
      have sx : SVar w2 wr.heap.size (x.row q) := by rw [hw2]; exact snew _ _ _
      have HBw : Hid (Below w.heap.size w w2) := Lib.hid (HX.out.1.trans (hb2.mono HX.out.1.size))
      have own2 := own_later HX.out.2.1 hb2
      have hjx : j < xs.length := by rw [HX.out.2.2.1]; exact hlt
      have hat2 : ∀ W, (Instr.indexAt 48 (.slice (some ⟨gt, 0, none⟩) n n) (.int .i64 (j : Int))).run Try.prog W = .ok (.pointer (some ⟨gt, j, none⟩)) W := fun W => at_48_0 gt n n j hlt W
      have HCt : Hid (∀ W, Below w2.heap.size w2 W → (∃ u, W.cell? ⟨gt, j, none⟩ = some (.bool u)) ∧ W.frozen? ⟨gt, j, none⟩ = false) := Lib.hid fun W hW => by
        have ow := own_later own2 hW
        refine ⟨⟨xs[j], ?_⟩, ow.frozenAt j⟩
        rw [ow.cellAt j (by omega)]
        exact bls_get (List.getElem?_eq_getElem hjx)
      have HX2 : Hid (∀ W b, Below w2.heap.size w2 W → b = gB (vD l) lt j → ∃ ys : List Bool, Below w.heap.size w (W.setCell ⟨gt, j, none⟩ (.bool b)) ∧ (W.setCell ⟨gt, j, none⟩ (.bool b)).ownsRow gt 4 1 (.slice (some ⟨gt, 0, none⟩) n n) n (bls ys) ∧ ys.length = n ∧ ∀ k, k < j + 1 → ys[k]? = some (gB (vD l) lt k)) := Lib.hid fun W b hW hb => by
        have hb3 : But gt W (W.setCell ⟨gt, j, none⟩ (.bool b)) := (But.refl gt W).set _ _
        have hbw := HBw.out.trans (hW.mono HBw.out.size)
        refine ⟨xs.set j b, hbw.trans (hb3.below (by rw [HG.out]; exact Nat.le_refl _) hbw.size), ?_, by rw [List.length_set]; exact HX.out.2.2.1, fun k hk => ?_⟩
        · have e : bls (xs.set j b) = (bls xs).set j (.bool b) := by simp [bls, List.map_set]
          rw [e]; exact ((own_later own2 hW).stored j (.bool b)).1
        · by_cases e : k = j
          · subst e
            rw [List.getElem?_set_self hjx, hb]
          · rw [List.getElem?_set_ne (fun e2 => e e2.symm)]
            exact HX.out.2.2.2 k (by omega)
      have hDx : (vD l)[j]? = some (x.rv.ver, (liveL x.rv.l).length) := by simp [vD, hx]
      have HW := Lib.hid hw2.symm
      have hsz : wr.heap.size < w2.heap.size := sx.lt
      by_cases h0 : 0 < j
      · have h00 : decide ((0 : Int) < (j : Int)) = true := decide_eq_true (by omega)
        have h01 : (0 : Int) < (j : Int) := by omega
        obtain ⟨p, hp⟩ : ∃ p, p + 1 = j := ⟨j - 1, by omega⟩
        have hpi : (j : Int) - 1 = (p : Int) := by omega
        have hpn : p < n := by omega
        obtain ⟨⟨y, r⟩, hy⟩ : ∃ x, l[p]? = some x := ⟨_, List.getElem?_eq_getElem (by rw [← HN.out]; exact hpn)⟩
        obtain ⟨g', o', ea', hg', hr'⟩ := (HV.out.1.later HBw.out).at_ hy
        have hld2 := load_mid hr' sh52
        have hatp : ∀ W, (Instr.indexAt 25 (.slice a n cap) (.int .i64 (p : Int))).run Try.prog W = .ok (.pointer (some ⟨g', o' + p * 16, none⟩)) W := fun W => by rw [ea']; exact at_25 g' o' n cap p hpn W
        have hol := old_any y r lt w2
        have hDy : (vD l)[j - 1]? = some (y.rv.ver, (liveL y.rv.l).length) := by rw [show j - 1 = p by omega]; simp [vD, hy]
        have HE : Hid (gB (vD l) lt j = (decide (y.rv.ver ≤ lt) && (decide (x.rv.ver ≤ lt) && decide ((liveL x.rv.l).length = 0)))) := Lib.hid (by unfold gB; rw [hDx, hDy, decide_eq_true h0]; rfl)
        have HXl : Hid (x.rv.l.length ≤ 1000000 ∧ RevAt w2 x.rv q.s) := Lib.hid ⟨HV.out.2 _ (List.mem_of_getElem? hx), ((HV.out.1.later HBw.out).lk _ (List.mem_of_getElem? hx)).rv⟩
        have HSx := Lib.hid sx
        have HP := Lib.hid hpi
        unfold Vw.v at hol
        simp only [Vw.row] at hld hld2 HW
        clear hx ea hg hr hw2 hb2 sx own2 hjx hDx hy ea' hg' hr' hDy hp hpi HX ho hb hmk
        obtain ⟨b1, hb1⟩ : ∃ b, b = decide (y.rv.ver ≤ lt) := ⟨_, rfl⟩
        obtain ⟨b2, hb2⟩ : ∃ b, b = decide (x.rv.ver ≤ lt) := ⟨_, rfl⟩
        have hox := fun W => old_any x q lt W
        unfold Vw.v at hox
        rw [← hb1] at hol HE
        simp only [← hb2] at hox
        rw [← hb2] at HE
        clear hb1 hb2
        go_wp2_with (first | rw [HW.out] | rw [HP.out] | ((with_reducible refine load_run ?_ (.tmp 16) 52 ?_ ?_ hld ?_); exact rfl; exact rfl; exact rfl) | ((with_reducible refine load_rung ?_ (.tmp 26) 52 ?_ ?_ hld2 ?_); exact rfl; exact rfl; exact rfl) | fail)
        refine hol.mono ?_
        rintro e w3 ⟨rfl, hb3⟩
        clear hol hld hld2 HW
        cases b1 with
        | false =>
          obtain ⟨⟨u, ct⟩, ft⟩ := HCt.out w3 hb3
          obtain ⟨ys, hX3⟩ := HX2.out w3 false hb3 (by rw [HE.out]; rfl)
          clear hb3 hox HSx
          have HX3 := Lib.hid hX3
          clear hX3 HCt HX2 HE
          go_wp2_with fail
          first
            | exact ⟨⟨j + 1, ys, by simp, by omega, HX3⟩, by simp only [intOf]; omega⟩
            | (go_roundw
               case rel => exact ⟨j + 1, ys, by simp, by omega, HX3⟩
               case measure => simp [intOf]; omega)
        | true =>
          have hld7 := (HSx.out.later hb3).load sh52
          simp only [Vw.row] at hld7
          go_wp2_with (first | ((with_reducible refine load_rung ?_ (.tmp 7) 52 ?_ ?_ hld7 ?_); exact rfl; exact rfl; exact rfl) | fail)
          refine (hox _).mono ?_
          rintro e w4 ⟨rfl, hb4⟩
          have hb5 := hb3.trans (hb4.mono hb3.size)
          clear hox hld7
          cases b2 with
          | false =>
            obtain ⟨⟨u, ct⟩, ft⟩ := HCt.out w4 hb5
            obtain ⟨ys, hX3⟩ := HX2.out w4 false hb5 (by rw [HE.out]; rfl)
            clear hb3 hb4 hb5 HSx
            have HX3 := Lib.hid hX3
            clear hX3 HCt HX2 HE
            go_wp2_with fail
            first
              | exact ⟨⟨j + 1, ys, by simp, by omega, HX3⟩, by simp only [intOf]; omega⟩
              | (go_roundw
                 case rel => exact ⟨j + 1, ys, by simp, by omega, HX3⟩
                 case measure => simp [intOf]; omega)
          | true =>
            have hldr := load_mid ((HSx.out.later hb5).mid 6 (x.rv.row q.s) (fun k v hk => (by show (x.row q)[6 + k]? = some v; exact rv_mid x q k v hk))) sh50
            have hnl := nlive_any x.rv q.s w4 HXl.out.1 (HXl.out.2.below hb5)
            unfold Rm.v at hnl
            simp only [Rm.row] at hldr
            have hLe : Hid ((liveL x.rv.l).length ≤ 1000000) := Lib.hid (Nat.le_trans (List.length_filter_le _ _) HXl.out.1)
            obtain ⟨L, hL⟩ : ∃ L, L = (liveL x.rv.l).length := ⟨_, rfl⟩
            rw [← hL] at hnl HE
            clear hL
            go_wp2_with (first | ((with_reducible refine load_rung ?_ (.tmp 37) 50 ?_ ?_ hldr ?_); exact rfl; exact rfl; exact rfl) | fail)
            refine hnl.mono ?_
            rintro e w5 ⟨rfl, hb6⟩
            have hb7 := hb5.trans (hb6.mono hb5.size)
            clear hnl hldr
            obtain ⟨⟨u, ct⟩, ft⟩ := HCt.out w5 hb7
            by_cases hL0 : L = 0
            · subst hL0
              obtain ⟨ys, hX3⟩ := HX2.out w5 true hb7 (by rw [HE.out]; rfl)
              clear hb3 hb4 hb5 hb6 hb7 HSx
              have HX3 := Lib.hid hX3
              clear hX3 HCt HX2 HE
              go_wp2_with fail
              first
                | exact ⟨⟨j + 1, ys, by simp, by omega, HX3⟩, by simp only [intOf]; omega⟩
                | (go_roundw
                   case rel => exact ⟨j + 1, ys, by simp, by omega, HX3⟩
                   case measure => simp [intOf]; omega)
            · obtain ⟨ys, hX3⟩ := HX2.out w5 false hb7 (by rw [HE.out, decide_eq_false hL0]; rfl)
              have hL1 : decide ((L : Int) = 0) = false := decide_eq_false (by omega)
              have hL2 : ((L : Int) == 0) = false := by simp; omega
              clear hb3 hb4 hb5 hb6 hb7 HSx hL0
              have HX3 := Lib.hid hX3
              clear hX3 HCt HX2 HE
              go_wp2_with fail
              first
                | exact ⟨⟨j + 1, ys, by simp, by omega, HX3⟩, by simp only [intOf]; omega⟩
                | (go_roundw
                   case rel => exact ⟨j + 1, ys, by simp, by omega, HX3⟩
                   case measure => simp [intOf]; omega)
      · have h00 : decide ((0 : Int) < (j : Int)) = false := decide_eq_false (by omega)
        have h01 : ¬ (0 : Int) < (j : Int) := by omega
        obtain ⟨⟨u, ct⟩, ft⟩ := HCt.out w2 (Below.refl _ _)
        have HE : Hid (false = gB (vD l) lt j) := Lib.hid (by
          unfold gB
          rw [decide_eq_false h0]
          split <;> rfl)
        obtain ⟨ys, hX3⟩ := HX2.out w2 false (Below.refl _ _) HE.out
        have HX3 := Lib.hid hX3
        simp only [Vw.row] at hld HW
        clear hx ea hg hr hw2 hb2 sx own2 hjx hDx HX ho hb hmk HCt HX2 HE hX3
        go_wp2_with (first | rw [HW.out] | ((with_reducible refine load_run ?_ (.tmp 16) 52 ?_ ?_ hld ?_); exact rfl; exact rfl; exact rfl) | fail)
        first
          | exact ⟨⟨j + 1, ys, by simp, by omega, HX3⟩, by simp only [intOf]; omega⟩
          | (go_roundw
             case rel => exact ⟨j + 1, ys, by simp, by omega, HX3⟩
             case measure => simp [intOf]; omega)
    · have hlt2 : ¬ (j : Int) < (n : Int) := by omega
      obtain rfl : j = n := by omega
      have HE : Hid (Below w.heap.size w wr ∧ wr.ownsRow w.heap.size 4 1 (.slice (some ⟨gt, 0, none⟩) j j) j (bls (gL (vD l) lt))) := by
        obtain ⟨q1, q2, q3, q4⟩ := HX.out
        have e : xs = gL (vD l) lt := by
          apply List.ext_getElem?
          intro k
          by_cases hk : k < j
          · rw [q4 k hk, gL_get (by rw [HD.out]; exact hk)]
          · rw [List.getElem?_eq_none (by omega), List.getElem?_eq_none (by rw [gL_length, HD.out]; omega)]
        rw [e] at q2
        rw [← HG.out]
        exact Lib.hid ⟨by rw [HG.out]; exact q1, q2⟩
      clear HX
      go_wp2_with fail
      go_ret
      exact ⟨gt, rfl, HE.out.2, HE.out.1⟩
end Go.Proofs.Ytjlifkhpohfiaaa
