/- What tower.Next and onward come to, by whatever port. Condition: at most 900000 asks. -/
import Derived.Test.YtibimnibmengpaaDoorTb
namespace Go.Proofs.YtibimnibmengpaaDoor
open Go.RowKit Go.Op
set_option maxRecDepth 100000

def nextP (n : Nd) (lv : Int) : Pr (Int × Int) := if 0 ≤ lv ∧ lv < (n.nx.length : Int) then .ask (.word (n.nx.getD lv.toNat 0)) fun a => .ret (if a.err = 0 then (tto a.n, 0) else (0, a.err)) else .ret (0, 10)
/-- The node to which one goes on: no handle: it leads to nobody, or too far. -/
def onF (k : ByteArray) (h : Int) (x : Nd × Int) : Int × Nd × Int := if x.2 = 0 ∧ lt k x.1.low = false then (h, x.1, 0) else (0, nd0, x.2)
def onwardP (n : Nd) (lv : Int) (k : ByteArray) : Pr (Int × Nd × Int) := (nextP n lv).bind fun a => if a.2 = 0 ∧ a.1 ≠ 0 then (loadP a.1).bind fun x => .ret (onF k a.1 x) else .ret (0, nd0, a.2)
def ROn (G' : List (Nat × List Value)) (a : Int × Nd × Int) (v : Value) : Prop := ∃ p : Pl, a.2.1.d.In G' p ∧ v = .tuple #[.int .i64 a.1, a.2.1.v p, .int .i64 a.2.2]

theorem SysE.slcell {w0 : World} {b c r pb po : Nat} {t : Value} {G : List (Nat × List Value)} {w : World} {m : M} {s : Pt} {sl : Sl} {l : List Value} {i : Nat} {x : Value} (h : SysE w0 b c r pb po t G w m s) (hs : sl.In G l) (hx : l[i]? = some x) : ∃ g o, sl.a = some ⟨g, o, none⟩ ∧ w.cell? ⟨g, o + i, none⟩ = some x ∧ g < w.heap.size := by
  rcases hs.row with e | ⟨g, o, r, e, hm, hr⟩
  · rw [e] at hx; simp at hx
  · obtain ⟨m0, s0, h1, -⟩ := h
    have hc := (h1.rows g r hm).1.at_ _ _ (hr i x hx)
    exact ⟨g, o, e, hc, World.block_lt_of_cell? w ⟨g, o + i, none⟩ hc⟩
/-- Within a region that stores once. -/
structure LS (w2 : World) (P : World → Prop) (bs : List Bool) (_ : Nat → Value) (W : World) : Prop where
  one : bs[0]? = some false → Below w2.heap.size w2 W
  two : bs[0]? = some true → P W
theorem ls_start {w2 : World} {P : World → Prop} {β : Nat → Value} : LS w2 P [false] β w2.drew := ⟨fun _ => (Below.refl _ _).drew, fun e => (by cases e)⟩
section
variable {w0 : World} {b c r pb po : Nat} {t t1 : Value} {G G1 : List (Nat × List Value)} {w w1 w2 : World} {m m1 : M} {s s1 : Pt}
set_option maxHeartbeats 1000000 in
theorem Next_E (h : SysE w0 b c r pb po t G w m s) (hc : m.count ≤ 900000) (nd : Nd) (p : Pl) (hin : nd.d.In G p) (lv : Int) :
    Calls Tryd.prog 27 #[.pointer (some ⟨pb, po, none⟩), nd.v p, .int .i64 lv] w fun e w' => Ev w0 b c r pb po t G w RInt2 ((nextP nd lv).run s m) e w' := by
  obtain ⟨⟨a, n, cap⟩, q1, q2, q3⟩ := p
  have hs : Sl.In G ⟨a, n, cap⟩ (ints nd.nx) := hin
  obtain rfl : n = nd.nx.length := by have := hs.n; rwa [ints_length] at this
  have hb0 := (Below.refl w.heap.size w).alloc (Nat.le_refl _) (.cells #[.string nd.low, .int .i64 nd.head, .slice a nd.nx.length cap] 38)
  have few := hs.few
  rw [ints_length] at few
  have HA := Lib.hid ((Aft.refl h).later hb0)
  unfold Nd.v
  simp only
  by_cases hlv : 0 ≤ lv ∧ lv < (nd.nx.length : Int)
  · obtain ⟨h1, h2⟩ := hlv
    have hx : nd.nx[lv.toNat]? = some (nd.nx.getD lv.toNat 0) := by
      rw [List.getD_eq_getElem?_getD, List.getElem?_eq_getElem (by omega)]; rfl
    obtain ⟨g, o, ea, ce, hg⟩ := h.slcell hs (ints_get hx)
    simp only at ea
    subst ea
    have hl := eword HA.out.sys hc (nd.nx.getD lv.toNat 0)
    have hca : (w.alloc (.cells #[.string nd.low, .int .i64 nd.head, .slice (some ⟨g, o, none⟩) nd.nx.length cap] 38)).cell? ⟨g, o + lv.toNat, none⟩ = some (.int .i64 (nd.nx.getD lv.toNat 0)) := by
      rw [hb0.cell (p := ⟨g, o + lv.toNat, none⟩) hg]; exact ce
    have HP : Hid (nextP nd lv = .ask (.word (nd.nx.getD lv.toNat 0)) fun a => .ret (if a.err = 0 then (tto a.n, 0) else (0, a.err))) := if_pos ⟨h1, h2⟩
    have h3 : ¬ lv < 0 := by omega
    have h4 : ¬ (nd.nx.length : Int) ≤ lv := by omega
    generalize nd.nx.getD lv.toNat 0 = k at hl hca HP
    clear h hs hb0 hx ce hg
    go_enter Tryd.func27, Tryd.ntmps27
    go_wp2_with fail
    refine hl.mono ?_
    rintro e w1 hE
    rcases hE.cases with ⟨t1, G1, s1, m1, ho, rfl, ha⟩ | ⟨t1, G1, s1, m1, a, v, ho, rfl, rfl, ha⟩
    · have HX : Hid (Ev w0 b c r pb po t G w RInt2 ((nextP nd lv).run s m) (Halt pb po) w1) := Ev.die (by rw [HP.out, Pr.run_ask, ho]) (HA.out.trans ha)
      clear hl hE ho ha HA HP
      unfold Halt
      go_wp2
      exact ⟨rfl, HX.out⟩
    · by_cases he : a.err = 0
      · have HX : Hid (Ev w0 b c r pb po t G w RInt2 ((nextP nd lv).run s m) (.returned (.tuple #[.int .i64 (tto a.n), .int .i64 0])) w1) := Ev.ret (a := (tto a.n, 0)) (by rw [HP.out, Pr.run_ask, ho]; simp only [Pr.run, he, if_true]) rfl (HA.out.trans ha)
        have ht := fun w => tto_any a.n w
        clear hl hE ho ha HA HP
        rw [he]
        go_wp2_with fail
        refine (ht _).mono ?_
        rintro e w2 ⟨rfl, rfl⟩
        go_wp2
        go_ret2
        exact HX.out
      · have HX : Hid (Ev w0 b c r pb po t G w RInt2 ((nextP nd lv).run s m) (.returned (.tuple #[.int .i64 0, .int .i64 a.err])) w1) := Ev.ret (a := (0, a.err)) (by rw [HP.out, Pr.run_ask, ho]; simp only [Pr.run, he, if_false]) rfl (HA.out.trans ha)
        clear hl hE ho ha HA HP
        go_wp2
        go_ret2
        exact HX.out
  · have HX : Hid (Ev w0 b c r pb po t G w RInt2 ((nextP nd lv).run s m) (.returned (.tuple #[.int .i64 0, .int .i64 10])) (w.alloc (.cells #[.string nd.low, .int .i64 nd.head, .slice a nd.nx.length cap] 38))) := Ev.ret (a := (0, 10)) (by rw [nextP, if_neg hlv]; rfl) rfl HA.out
    clear h hs hb0 HA hin
    by_cases h1 : lv < 0
    · clear hlv
      go_enter Tryd.func27, Tryd.ntmps27
      go_wp2
      go_ret2
      exact HX.out
    · have h2 : (nd.nx.length : Int) ≤ lv := by omega
      clear hlv
      go_enter Tryd.func27, Tryd.ntmps27
      go_wp2
      go_ret2
      exact HX.out
theorem next_count (nd : Nd) (lv : Int) (s : Pt) (m : M) : m.count ≤ ((nextP nd lv).run s m).2.2.count ∧ ((nextP nd lv).run s m).2.2.count ≤ m.count + 1 := by
  rw [nextP]
  split
  · rw [Pr.run_ask]
    obtain ⟨h1, h2, -⟩ := ask_count s (.word (nd.nx.getD lv.toNat 0)) m
    generalize s.ask _ m = u at h1 h2
    obtain ⟨_ | a, s', m'⟩ := u
    · exact ⟨h1, h2⟩
    · exact ⟨h1, h2⟩
  · exact ⟨Int.le_refl _, by simp only [Pr.run]; omega⟩
set_option maxHeartbeats 2000000 in
theorem onward_E (h : SysE w0 b c r pb po t G w m s) (hc : m.count ≤ 800000) (nd : Nd) (p : Pl) (hin : nd.d.In G p) (lv : Int) (k : ByteArray) :
    Calls Tryd.prog 44 #[.pointer (some ⟨pb, po, none⟩), nd.v p, .int .i64 lv, .string k] w fun e w' => Ev w0 b c r pb po t G w ROn ((onwardP nd lv k).run s m) e w' := by
  obtain ⟨wa, hwa⟩ : ∃ W, W = (w.alloc (.cells (nd.row p).toArray 38)).alloc nobj := ⟨_, rfl⟩
  have ba : Below w.heap.size w wa := by
    rw [hwa]
    exact ((Below.refl _ w).alloc (Nat.le_refl _) _).alloc (by simp) _
  have V1 := (Vars.nil (w := w)).new h (nd.row p) 38
  have h1 := h.later ((Below.refl w.heap.size w).alloc (Nat.le_refl _) (.cells (nd.row p).toArray 38))
  have V2 := V1.new h1 (nd0.row .nil) 38
  simp only [World.size_alloc] at V2
  have e2 : ((w.alloc (.cells (nd.row p).toArray 38)).alloc (.cells (nd0.row .nil).toArray 38)) = wa := hwa.symm
  rw [e2] at V2
  have hl := Next_E (h.later ba) (by omega) nd p hin lv
  have hct := (next_count nd lv s m).2
  have HW := Lib.hid hwa.symm
  have HB := Lib.hid ba
  have HV := Lib.hid V2
  have hld := (V2 (w.heap.size, nd.row p) (by simp)).2.load sh27
  simp only [Nd.row, nobj] at HW hld
  unfold Nd.v at hl
  unfold Nd.v
  have mixed : Tryd.prog.follows .mixedOrders = true := by kernel_rfl
  clear h hwa ba V1 h1 V2 e2 hin
  go_enter Tryd.func44, Tryd.ntmps44
  go_wp2_with (first | rw [HW.out] | ((with_reducible refine load_run ?_ (.tmp 5) 38 ?_ ?_ hld ?_); exact rfl; exact rfl; exact rfl) | fail)
  refine hl.mono ?_
  rintro e w1 hE
  rcases hE.cases with ⟨t1, G1, s1, m1, ho, rfl, ha⟩ | ⟨t1, G1, s1, m1, ⟨h1, e1⟩, v1, ho, rfl, rfl, ha⟩
  · have HX : Hid (Ev w0 b c r pb po t G w ROn ((onwardP nd lv k).run s m) (Halt pb po) w1) := Ev.die (by rw [onwardP, Pr.bind_none ho]) (ha.back HB.out)
    clear hl hE ho ha hld
    unfold Halt
    go_wp2
    exact ⟨rfl, HX.out⟩
  rw [ho] at hct
  simp only at hct
  have hV := HV.out.aft ha
  have hr : SVar w1 (w.heap.size + 1) (nd0.row .nil) := (hV (w.heap.size + 1, nd0.row .nil) (by simp)).2
  have hrl : Loc w0 b c r pb t1 G1 w1 (w.heap.size + 1) := (hV (w.heap.size + 1, nd0.row .nil) (by simp)).1
  have ha1 := ha.back HB.out
  have hrun : (onwardP nd lv k).run s m = (if e1 = 0 ∧ h1 ≠ 0 then (loadP h1).bind fun x => .ret (onF k h1 x) else .ret (0, nd0, e1)).run s1 m1 := by rw [onwardP, Pr.bind_some ho]
  by_cases hgo : e1 = 0 ∧ h1 ≠ 0
  · obtain ⟨rfl, hh⟩ := hgo
    rw [if_pos ⟨rfl, hh⟩] at hrun
    have hl2 := Load_E ha.sys (by omega) h1
    have HR := Lib.hid hrun
    have HA1 := Lib.hid ha1
    have HV2 := Lib.hid (⟨hr, hrl⟩ : _ ∧ _)
    clear hl hE ho ha hld hV hr hrl ha1 hrun hct HV
    go_wp2_with fail
    refine hl2.mono ?_
    rintro e w2 hE
    rcases hE.cases with ⟨t2, G2, s2, m2, ho, rfl, ha⟩ | ⟨t2, G2, s2, m2, ⟨x, e2⟩, v2, ho, rfl, ⟨q, hq, rfl⟩, ha⟩
    · have HX : Hid (Ev w0 b c r pb po t G w ROn ((onwardP nd lv k).run s m) (Halt pb po) w2) := Ev.die (by rw [HR.out, Pr.bind_none ho]) (HA1.out.trans ha)
      clear hl2 hE ho ha
      unfold Halt
      go_wp2
      exact ⟨rfl, HX.out⟩
    obtain ⟨hr, hrl⟩ := HV2.out
    obtain ⟨hr2, hrl2⟩ := ha.svar hrl hr
    have hrun : (onwardP nd lv k).run s m = (some (onF k h1 (x, e2)), s2, m2) := by rw [HR.out, Pr.bind_some ho]; rfl
    obtain ⟨w3, hw3⟩ : ∃ W, W = w2.alloc (.cells (x.row q).toArray 38) := ⟨_, rfl⟩
    have hb3 : Below w2.heap.size w2 w3 := by rw [hw3]; exact (Below.refl _ _).alloc (Nat.le_refl _) _
    have sx : SVar w3 w2.heap.size (x.row q) := by rw [hw3]; exact snew _ _ _
    have hr3 := hr2.later hb3
    have hrl3 := hrl2.same hb3.size
    have ha3 := (HA1.out.trans ha).later hb3
    have cx := sx.cell (i := 0) rfl

    have HW3 := Lib.hid hw3.symm
    have hst : ∀ (a : Int × Nd × Int) (q : Pl), (onwardP nd lv k).run s m = (some a, s2, m2) → a.2.1.d.In G2 q → ∀ W, Below w3.heap.size w3 W → (Instr.storeAt 38 (.pointer (some ⟨w.heap.size + 1, 0, none⟩)) (.agg #[.string a.2.1.low, .int .i64 a.2.1.head, .slice q.s0.a q.s0.n q.s0.cap])).run Tryd.prog W = .ok () (sput W (w.heap.size + 1) (a.2.1.row q)) ∧ Ev w0 b c r pb po t G w ROn ((onwardP nd lv k).run s m) (.returned (.tuple #[.int .i64 a.1, .agg #[.string a.2.1.low, .int .i64 a.2.1.head, .slice q.s0.a q.s0.n q.s0.cap], .int .i64 a.2.2])) (sput W (w.heap.size + 1) (a.2.1.row q)) ∧ (Go.loadVar 38 ⟨w.heap.size + 1, 0, none⟩).run Tryd.prog (sput W (w.heap.size + 1) (a.2.1.row q)) = .ok (.agg #[.string a.2.1.low, .int .i64 a.2.1.head, .slice q.s0.a q.s0.n q.s0.cap]) (sput W (w.heap.size + 1) (a.2.1.row q)) := fun a q hrun hq W hW =>
      have hr4 := hr3.later hW
      ⟨hr4.store (row' := a.2.1.row q) rfl sh27 (a.2.1.row_one q), Ev.ret hrun ⟨q, hq, rfl⟩ ((ha3.later hW).aside (But.sput _ _ _) (hrl3.same hW.size) (Nat.le_succ _)), (hr4.put (row' := a.2.1.row q) rfl).loadVar sh27⟩
    have HSx := Lib.hid sx
    unfold Nd.v
    simp only [Nd.row] at HW3
    clear hl2 hE ho ha hr hrl hr2 hrl2 hw3 hb3 sx hr3 hrl3 ha3 HV2 HW HR HA1 HB
    have hno : ∀ e : Int, onF k h1 (x, e2) = (0, nd0, e) → Hid ((Instr.storeAt 38 (.pointer (some ⟨w.heap.size + 1, 0, none⟩)) (.agg #[.string ⟨#[]⟩, .int .i64 0, .slice none 0 0])).run Tryd.prog w3 = .ok () (sput w3 (w.heap.size + 1) (nd0.row .nil)) ∧ Ev w0 b c r pb po t G w ROn ((onwardP nd lv k).run s m) (.returned (.tuple #[.int .i64 0, .agg #[.string ⟨#[]⟩, .int .i64 0, .slice none 0 0], .int .i64 e])) (sput w3 (w.heap.size + 1) (nd0.row .nil)) ∧ (Go.loadVar 38 ⟨w.heap.size + 1, 0, none⟩).run Tryd.prog (sput w3 (w.heap.size + 1) (nd0.row .nil)) = .ok (.agg #[.string ⟨#[]⟩, .int .i64 0, .slice none 0 0]) (sput w3 (w.heap.size + 1) (nd0.row .nil))) := fun e he =>
      hst (0, nd0, e) .nil (by rw [hrun, he]) Sl.In.nil w3 (Below.refl _ _)
    by_cases he2 : e2 = 0
    · subst he2
      cases hlt : lt k x.low with
      | true =>
        have HF := hno 0 (by simp [onF, hlt])
        have hst0 := HF.out.1
        obtain ⟨q1, q2⟩ : bytesLess x.low.toList k.toList = false ∧ (x.low.toList == k.toList) = false := by
          have hlt : bytesLess k.toList x.low.toList = true := hlt
          rcases tri x.low k with h | h | h
          · rw [h.2.1] at hlt; cases hlt
          · rw [h.2.1] at hlt; cases hlt
          · exact ⟨h.1, h.2.2⟩
        generalize sput w3 (w.heap.size + 1) (nd0.row .nil) = W at HF hst0
        clear hno hst hrun hq HSx hlt
        go_wp2_with (first | rw [HW3.out] | ((with_reducible refine store_run ?_ (.tmp 9) (.tmp 43) 38 ?_ ?_ ?_ hst0 ?_); exact rfl; exact rfl; exact rfl; exact rfl))
        exact bodyPost_ret (res_tct (.int .i64 0) (.int .i64 0) Tryd.results44 rfl rfl rfl HF.out.2.2) rfl HF.out.2.1
      | false =>
        have hyes : onF k h1 (x, 0) = (h1, x, 0) := if_pos ⟨rfl, hlt⟩
        have HSt := Lib.hid (hst (h1, x, 0) q (by rw [hrun, hyes]) hq)
        clear hno hst hrun hq hyes
        rcases tri x.low k with ⟨q1, q0, q2⟩ | ⟨q1, q0, q2⟩ | ⟨q1, q0, q2⟩
        · clear hlt q0
          go_wp2_with (first | rw [HW3.out] | fail)
          refine FreeV.region_puts (S := LS w3 (fun W => Ev w0 b c r pb po t G w ROn ((onwardP nd lv k).run s m) (.returned (.tuple #[.int .i64 h1, .agg #[.string x.low, .int .i64 x.head, .slice q.s0.a q.s0.n q.s0.cap], .int .i64 0])) W ∧ (Go.loadVar 38 ⟨w.heap.size + 1, 0, none⟩).run Tryd.prog W = .ok (.agg #[.string x.low, .int .i64 x.head, .slice q.s0.a q.s0.n q.s0.cap]) W)) (effs := [3])
            (tab := [⟨1, fun _ => [.pointer (some ⟨w2.heap.size, 0, none⟩)], fun _ => .agg #[.string x.low, .int .i64 x.head, .slice q.s0.a q.s0.n q.s0.cap], .read⟩,
              ⟨3, fun _ => [.pointer (some ⟨w.heap.size + 1, 0, none⟩), .agg #[.string x.low, .int .i64 x.head, .slice q.s0.a q.s0.n q.s0.cap]], fun _ => undef, .put⟩])
            (vs := [([], fun _ => .int .i64 h1), ([], fun _ => .agg #[.string x.low, .int .i64 x.head, .slice q.s0.a q.s0.n q.s0.cap]), ([], fun _ => .int .i64 h1), ([], fun _ => undef), ([], fun _ => .int .i64 0)])
            (by kernel_rfl) ⟨by kernel_rfl, ⟨FreeV.d_load _ rfl rfl (fun β bs W hS hd => load_mid (sub := x.row q) (HSx.out.later (hS.one ((hd 0 3 rfl).2 (.inl (by kernel_rfl))))).at_ sh27),
              FreeV.d_store _ rfl rfl 0 rfl (fun β bs W hS hd => ⟨_, (HSt.out W (hS.one ((hd 0 3 rfl).2 (.inr rfl)))).1, fun e => (by rw [set_at ((hd 0 3 rfl).2 (.inr rfl))] at e; cases e), fun _ => (HSt.out W (hS.one ((hd 0 3 rfl).2 (.inr rfl)))).2⟩),
              trivial⟩,
              fun β => by kernel_rfl, fun β => by kernel_rfl, by kernel_rfl, fun β => by kernel_rfl, by kernel_rfl⟩ ls_start (fun β => Free.from_ 45 [.int .i64 h1, .agg #[.string x.low, .int .i64 x.head, .slice q.s0.a q.s0.n q.s0.cap]] ++ [(8, .int .i64 h1), (10, .int .i64 0)]) (fun β => by kernel_rfl) ?_
          intro β w4 h4
          obtain ⟨HX, HY⟩ := h4.two rfl
          have HE := Lib.hid HX
          have HF := Lib.hid HY
          clear h4 HX HY HSt HSx
          rw [FreeX.puts_append, Free.puts_from _ _ _ (Nat.le_of_ble_eq_true rfl)]
          simp only [List.take_succ_cons, List.take_zero, List.drop_succ_cons, List.drop_zero, List.cons_append, List.nil_append, List.length_cons, List.length_nil, Nat.reduceAdd]
          unfold Free.puts
          simp only [List.foldl_cons, List.foldl_nil]
          go_wp2_with fail
          exact bodyPost_ret (res_tct (.int .i64 h1) (.int .i64 0) Tryd.results44 rfl rfl rfl HF.out) rfl HE.out
        · clear hlt q0
          go_wp2_with (first | rw [HW3.out] | fail)
          refine FreeV.region_puts (S := LS w3 (fun W => Ev w0 b c r pb po t G w ROn ((onwardP nd lv k).run s m) (.returned (.tuple #[.int .i64 h1, .agg #[.string x.low, .int .i64 x.head, .slice q.s0.a q.s0.n q.s0.cap], .int .i64 0])) W ∧ (Go.loadVar 38 ⟨w.heap.size + 1, 0, none⟩).run Tryd.prog W = .ok (.agg #[.string x.low, .int .i64 x.head, .slice q.s0.a q.s0.n q.s0.cap]) W)) (effs := [3])
            (tab := [⟨1, fun _ => [.pointer (some ⟨w2.heap.size, 0, none⟩)], fun _ => .agg #[.string x.low, .int .i64 x.head, .slice q.s0.a q.s0.n q.s0.cap], .read⟩,
              ⟨3, fun _ => [.pointer (some ⟨w.heap.size + 1, 0, none⟩), .agg #[.string x.low, .int .i64 x.head, .slice q.s0.a q.s0.n q.s0.cap]], fun _ => undef, .put⟩])
            (vs := [([], fun _ => .int .i64 h1), ([], fun _ => .agg #[.string x.low, .int .i64 x.head, .slice q.s0.a q.s0.n q.s0.cap]), ([], fun _ => .int .i64 h1), ([], fun _ => undef), ([], fun _ => .int .i64 0)])
            (by kernel_rfl) ⟨by kernel_rfl, ⟨FreeV.d_load _ rfl rfl (fun β bs W hS hd => load_mid (sub := x.row q) (HSx.out.later (hS.one ((hd 0 3 rfl).2 (.inl (by kernel_rfl))))).at_ sh27),
              FreeV.d_store _ rfl rfl 0 rfl (fun β bs W hS hd => ⟨_, (HSt.out W (hS.one ((hd 0 3 rfl).2 (.inr rfl)))).1, fun e => (by rw [set_at ((hd 0 3 rfl).2 (.inr rfl))] at e; cases e), fun _ => (HSt.out W (hS.one ((hd 0 3 rfl).2 (.inr rfl)))).2⟩),
              trivial⟩,
              fun β => by kernel_rfl, fun β => by kernel_rfl, by kernel_rfl, fun β => by kernel_rfl, by kernel_rfl⟩ ls_start (fun β => Free.from_ 45 [.int .i64 h1, .agg #[.string x.low, .int .i64 x.head, .slice q.s0.a q.s0.n q.s0.cap]] ++ [(8, .int .i64 h1), (10, .int .i64 0)]) (fun β => by kernel_rfl) ?_
          intro β w4 h4
          obtain ⟨HX, HY⟩ := h4.two rfl
          have HE := Lib.hid HX
          have HF := Lib.hid HY
          clear h4 HX HY HSt HSx
          rw [FreeX.puts_append, Free.puts_from _ _ _ (Nat.le_of_ble_eq_true rfl)]
          simp only [List.take_succ_cons, List.take_zero, List.drop_succ_cons, List.drop_zero, List.cons_append, List.nil_append, List.length_cons, List.length_nil, Nat.reduceAdd]
          unfold Free.puts
          simp only [List.foldl_cons, List.foldl_nil]
          go_wp2_with fail
          exact bodyPost_ret (res_tct (.int .i64 h1) (.int .i64 0) Tryd.results44 rfl rfl rfl HF.out) rfl HE.out
        · have hlt : bytesLess k.toList x.low.toList = false := hlt
          rw [hlt] at q0
          cases q0
    · have HF := hno e2 (by rw [onF, if_neg (fun e => he2 e.1)])
      have hst0 := HF.out.1
      generalize sput w3 (w.heap.size + 1) (nd0.row .nil) = W at HF hst0
      clear hno hst hrun hq HSx
      go_wp2_with (first | rw [HW3.out] | ((with_reducible refine store_run ?_ (.tmp 9) (.tmp 43) 38 ?_ ?_ ?_ hst0 ?_); exact rfl; exact rfl; exact rfl; exact rfl))
      exact bodyPost_ret (res_tct (.int .i64 0) (.int .i64 e2) Tryd.results44 rfl rfl rfl HF.out.2.2) rfl HF.out.2.1
  · rw [if_neg hgo] at hrun
    have hst := hr.store (row' := nd0.row .nil) rfl sh27 (nd0.row_one .nil)
    have HF : Hid (Ev w0 b c r pb po t G w ROn ((onwardP nd lv k).run s m) (.returned (.tuple #[.int .i64 0, .agg #[.string ⟨#[]⟩, .int .i64 0, .slice none 0 0], .int .i64 e1])) (sput w1 (w.heap.size + 1) (nd0.row .nil)) ∧ (Go.loadVar 38 ⟨w.heap.size + 1, 0, none⟩).run Tryd.prog (sput w1 (w.heap.size + 1) (nd0.row .nil)) = .ok (.agg #[.string ⟨#[]⟩, .int .i64 0, .slice none 0 0]) (sput w1 (w.heap.size + 1) (nd0.row .nil))) :=
      ⟨Ev.ret (a := (0, nd0, e1)) (by rw [hrun]; rfl) ⟨.nil, Sl.In.nil, rfl⟩ (ha1.aside (But.sput _ _ _) hrl (Nat.le_succ _)), (hr.put (row' := nd0.row .nil) rfl).loadVar sh27⟩
    generalize sput w1 (w.heap.size + 1) (nd0.row .nil) = W at hst HF
    simp only [Nd.row, nd0, Pl.nil, Sl.nil] at hst
    clear hl hE ho ha hld hV hr hrl ha1 hrun hct HV HW
    by_cases he1 : e1 = 0
    · obtain rfl : h1 = 0 := by
        by_cases q : h1 = 0
        · exact q
        · exact absurd ⟨he1, q⟩ hgo
      clear hgo
      subst he1
      go_wp2_with (first | ((with_reducible refine store_run ?_ (.tmp 9) (.tmp 27) 38 ?_ ?_ ?_ hst ?_); exact rfl; exact rfl; exact rfl; exact rfl))
      exact bodyPost_ret (res_tct (.int .i64 0) (.int .i64 0) Tryd.results44 rfl rfl rfl HF.out.2) rfl HF.out.1
    · clear hgo
      go_wp2_with (first | ((with_reducible refine store_run ?_ (.tmp 9) (.tmp 27) 38 ?_ ?_ ?_ hst ?_); exact rfl; exact rfl; exact rfl; exact rfl))
      exact bodyPost_ret (res_tct (.int .i64 0) (.int .i64 e1) Tryd.results44 rfl rfl rfl HF.out.2) rfl HF.out.1
end
end Go.Proofs.YtibimnibmengpaaDoor
