/- What plan.Towers makes of any row of views. Condition: at most 200000 views. -/
import Derived.Test.YtjlifkhpohfiaaaTa
import Derived.Test.YtjlifkhpohfiaaaRe
namespace Go.Proofs.Ytjlifkhpohfiaaa
open Go.RowKit Go.Op
set_option maxRecDepth 100000

theorem enter_49 (xs : Array Value) (w : World) : (callFunc 49 xs).run Try.prog w = .ok (.enter 49 xs) w := by kernel_rfl
theorem at_28_0 (g n cp k : Nat) (h : k < n) (w : World) : (Instr.indexAt 28 (.slice (some ⟨g, 0, none⟩) n cp) (.int .i64 (k : Int))).run Try.prog w = .ok (.pointer (some ⟨g, k * 4, none⟩)) w := by
  have := at_28 g 0 n cp k h w
  rwa [Nat.zero_add] at this
def twV (h : Int) (a b : Value) : Value := .agg #[.int .i64 h, a, b, .bool false]
theorem build_57 (h : Int) (a : Option Addr) (n c : Nat) (b : Option Addr) (m d : Nat) (w : World) : (Instr.build 57 #[(0, .int .i64 h), (1, .slice a n c), (2, .slice b m d)]).run Try.prog w = .ok (twV h (.slice a n c) (.slice b m d)) w := by
  unfold twV
  go_simp
/-- Towers as plan.Towers makes them: the first ones are there. -/
def TIs (vl : List (Vw × Vs)) (k : Nat) (tl : List (Tw × Ts)) : Prop := tl.length = vl.length ∧ ∀ i y, i < k → vl[i]? = some y → ∃ q, tl[i]? = some (⟨y.1.h, y.1.nd.nx, y.1.links, false⟩, q)
def TAll (W : World) (g : Nat) (tl : List (Tw × Ts)) : Prop := ∀ x, x ∈ tl → TAt W x.1 x.2 ∧ TFar (some g) x.1 x.2
set_option maxHeartbeats 2000000 in
theorem towers_any (w : World) (a : Option Addr) (cap : Nat) (vl : List (Vw × Vs)) (h : VRow w a vl) (hcap : vl.length ≤ cap) :
    Calls Try.prog 34 #[.slice a vl.length cap] w fun e w' => ∃ g, e = .returned (.slice (some ⟨g, 0, none⟩) vl.length vl.length) ∧ ∃ tl, w'.ownsRow w.heap.size 57 4 (.slice (some ⟨g, 0, none⟩) vl.length vl.length) vl.length (trows tl) ∧ TIs vl vl.length tl ∧ TAll w' g tl ∧ Below w.heap.size w w' := by
  have few := h.few
  obtain ⟨n, hn⟩ : ∃ n, n = vl.length := ⟨_, rfl⟩
  have HV := Lib.hid h
  have HN := Lib.hid (⟨hn, hcap⟩ : _ ∧ _)
  rw [← hn] at few ⊢
  have mixed : Try.prog.follows .mixedOrders = true := by kernel_rfl
  obtain ⟨W, hmk, ho, hb⟩ := made_towers w n (by omega)
  obtain ⟨gt, hgt⟩ : ∃ g, g = w.heap.size := ⟨_, rfl⟩
  rw [← hgt] at hmk ho
  have HG := Lib.hid hgt
  clear h hcap hn hgt
  go_enter Try.func34, Try.ntmps34
  go_wp2_with fail
  go_loopw [11] (fun iv wr => ∃ (j : Nat) (tl : List (Tw × Ts)), iv = .int .i64 (j : Int) ∧ j ≤ n ∧ Hid (Below w.heap.size w wr ∧ wr.ownsRow gt 57 4 (.slice (some ⟨gt, 0, none⟩) n n) n (trows tl) ∧ TIs vl j tl ∧ (∀ i x, i < j → tl[i]? = some x → TAt wr x.1 x.2 ∧ TFar (some gt) x.1 x.2))) (fun iv _ => n - (intOf iv).toNat)
  case atStart => exact ⟨0, _, rfl, Nat.zero_le _, Lib.hid ⟨hb.out, ho.out, ⟨by rw [List.length_replicate]; exact HN.out.1, fun i y hi => absurd hi (Nat.not_lt_zero _)⟩, fun i x hi => absurd hi (Nat.not_lt_zero _)⟩⟩
  case round =>
    obtain ⟨j, tl, rfl, hj, HX⟩ := hrel
    by_cases hlt : j < n
    · have hlt2 : (j : Int) < (n : Int) := by omega
      obtain ⟨⟨x, q⟩, hx⟩ : ∃ x, vl[j]? = some x := ⟨_, List.getElem?_eq_getElem (by rw [← HN.out.1]; exact hlt)⟩
      obtain ⟨g, o, ea, hg, hr⟩ := (HV.out.later HX.out.1).at_ hx
      have hva := (HV.out.later HX.out.1).lk _ (List.mem_of_getElem? hx)
      have hld := load_mid hr sh52
      obtain ⟨w2, hw2⟩ : ∃ W, W = wr.alloc (.cells (x.row q).toArray 52) := ⟨_, rfl⟩
      have hb2 : Below wr.heap.size wr w2 := by rw [hw2]; exact al_below _ _
      obtain ⟨zx, hzx⟩ : ∃ z, z = wr.heap.size := ⟨_, rfl⟩
      have sx : SVar w2 zx (x.row q) := by rw [hw2, hzx]; exact snew _ _ _
      have hat : ∀ W, (Instr.indexAt 25 (.slice a n cap) (.int .i64 (j : Int))).run Try.prog W = .ok (.pointer (some ⟨g, o + j * 16, none⟩)) W := fun W => by rw [ea]; exact at_25 g o n cap j hlt W
      have HS : Hid (∀ W, Below w2.heap.size w2 W → SVar W zx (x.row q) ∧ VAt W x q) := Lib.hid fun W hW => ⟨sx.later hW, (hva.later hb2).later hW⟩
      have HJ : Hid (j < n ∧ w2.ownsRow gt 57 4 (.slice (some ⟨gt, 0, none⟩) n n) n (trows tl) ∧ tl.length = n ∧ x.nd.nx.length ≤ 1000000 ∧ x.links.length ≤ 1000000) := Lib.hid ⟨hlt, own_later HX.out.2.1 hb2, by rw [HX.out.2.2.1.1, HN.out.1], hva.nf, hva.lf⟩
      have HB2 := Lib.hid hb2
      have HXx := Lib.hid hx
      have HW := Lib.hid hw2.symm
      have HZ := Lib.hid hzx.symm
      simp only [Vw.row] at hld HW
      clear hx ea hg hr hva hb2 sx hw2 hzx hmk
      go_wp2_with (first | rw [HW.out] | ((with_reducible refine load_run ?_ (.tmp 14) 52 ?_ ?_ hld ?_); exact rfl; exact rfl; exact rfl) | fail)
      rw [HZ.out]
      refine FreeV.region_puts (S := SGL w2 [(7, FC x.nd.nx), (10, FC x.links)] 2 (P5 w2 gt n gt n j tl ⟨x.h, x.nd.nx, x.links, false⟩)) (effs := [7, 10, 13])
        (tab := [⟨3, fun _ => [.pointer (some ⟨zx, 0, none⟩)], fun _ => .int .i64 x.h, .read⟩,
          ⟨6, fun _ => [.pointer (some ⟨zx, 3, none⟩)], fun _ => .slice q.na x.nd.nx.length q.nc, .read⟩,
          ⟨7, fun _ => [.func (.func 49) #[] #[], .slice q.na x.nd.nx.length q.nc], fun β => (β 7), .get⟩,
          ⟨9, fun _ => [.pointer (some ⟨zx, 4, none⟩)], fun _ => .slice q.la x.links.length q.lc, .read⟩,
          ⟨10, fun _ => [.func (.func 49) #[] #[], .slice q.la x.links.length q.lc], fun β => (β 10), .get⟩,
          ⟨11, fun β => [.int .i64 x.h, (β 7), (β 10)], fun β => (twV x.h (β 7) (β 10)), .read⟩,
          ⟨12, fun _ => [.slice (some ⟨gt, 0, none⟩) n n, .int .i64 (j : Int)], fun _ => .pointer (some ⟨gt, j * 4, none⟩), .pure⟩,
          ⟨13, fun β => [.pointer (some ⟨gt, j * 4, none⟩), (twV x.h (β 7) (β 10))], fun _ => undef, .put⟩])
        (vs := [([], fun _ => .slice (some ⟨gt, 0, none⟩) n n), ([], fun _ => .int .i64 (j : Int)), ([], fun _ => .pointer (some ⟨zx, 0, none⟩)), ([], fun _ => .int .i64 x.h), ([], fun _ => .pointer (some ⟨zx, 1, none⟩)), ([], fun _ => .pointer (some ⟨zx, 3, none⟩)), ([], fun _ => .slice q.na x.nd.nx.length q.nc), ([7], fun l => (l.headD undef)), ([], fun _ => .pointer (some ⟨zx, 4, none⟩)), ([], fun _ => .slice q.la x.links.length q.lc), ([10], fun l => (l.headD undef)), ([7, 10], fun l => (twV x.h (l.getD 0 undef) (l.getD 1 undef))), ([], fun _ => .pointer (some ⟨gt, j * 4, none⟩)), ([], fun _ => undef)])
        (by kernel_rfl) ⟨by kernel_rfl, ⟨FreeV.d_load _ rfl rfl (fun β bs W hS hd => load_3 ((HS.out W (hS.bel ((hd 2 13 rfl).2 (.inl (by kernel_rfl))))).1.cell (i := 0) rfl)),
          FreeV.d_load _ rfl rfl (fun β bs W hS hd => load_35 ((HS.out W (hS.bel ((hd 2 13 rfl).2 (.inl (by kernel_rfl))))).1.cell (i := 3) rfl)),
          d_get1 rfl rfl enter_49 0 rfl (fun β bs W hS hd => hS.call ((hd 2 13 rfl).2 (.inl (by kernel_rfl))) (by decide) rfl (fc_clone W q.na q.nc x.nd.nx (HS.out W (hS.bel ((hd 2 13 rfl).2 (.inl (by kernel_rfl))))).2.nf (HS.out W (hS.bel ((hd 2 13 rfl).2 (.inl (by kernel_rfl))))).2.nx)),
          FreeV.d_load _ rfl rfl (fun β bs W hS hd => load_35 ((HS.out W (hS.bel ((hd 2 13 rfl).2 (.inl (by kernel_rfl))))).1.cell (i := 4) rfl)),
          d_get1 rfl rfl enter_49 1 rfl (fun β bs W hS hd => hS.call ((hd 2 13 rfl).2 (.inl (by kernel_rfl))) (by decide) rfl (fc_clone W q.la q.lc x.links (HS.out W (hS.bel ((hd 2 13 rfl).2 (.inl (by kernel_rfl))))).2.lf (HS.out W (hS.bel ((hd 2 13 rfl).2 (.inl (by kernel_rfl))))).2.lk)),
          d_build3 rfl rfl (fun β bs W hS hd => by obtain ⟨_, _, a1, c1, e1, -⟩ := hS.get ((hd 2 13 rfl).2 (.inl (by kernel_rfl))) rfl ((hd 0 7 rfl).1 (by kernel_rfl)); obtain ⟨_, _, a2, c2, e2, -⟩ := hS.get ((hd 2 13 rfl).2 (.inl (by kernel_rfl))) rfl ((hd 1 10 rfl).1 (by kernel_rfl)); rw [e1, e2]; exact build_57 _ _ _ _ _ _ _ W),
          FreeV.d_at _ rfl rfl (fun _ W => at_28_0 gt n n j HJ.out.1 W),
          FreeV.d_store _ rfl rfl 2 rfl (fun β bs W hS hd => p5_last hS ((hd 2 13 rfl).2 (.inr rfl)) ((hd 0 7 rfl).1 (by kernel_rfl)) ((hd 1 10 rfl).1 (by kernel_rfl)) HJ.out.2.1 HJ.out.2.2.1 HJ.out.1 HJ.out.2.2.2.1 HJ.out.2.2.2.2 (fun a c a' c' e1 e2 => by rw [e1, e2]; rfl)),
          trivial⟩,
          fun β => by kernel_rfl, fun β => by kernel_rfl, by kernel_rfl, fun β => by kernel_rfl, by kernel_rfl⟩ (SGL.start 3 (by decide) (st2 (fc_st _) (fc_st _)) (by simp)) (fun β => Free.from_ 16 [.slice (some ⟨gt, 0, none⟩) n n, .int .i64 (j : Int), .pointer (some ⟨zx, 0, none⟩), .int .i64 x.h, .pointer (some ⟨zx, 1, none⟩), .pointer (some ⟨zx, 3, none⟩), .slice q.na x.nd.nx.length q.nc, (β 7), .pointer (some ⟨zx, 4, none⟩), .slice q.la x.links.length q.lc, (β 10), (twV x.h (β 7) (β 10)), .pointer (some ⟨gt, j * 4, none⟩)]) (fun β => by kernel_rfl) ?_
      intro β w3 h3
      rw [Free.puts_from _ _ _ (Nat.le_of_ble_eq_true rfl)]
      simp only [List.take_succ_cons, List.take_zero, List.drop_succ_cons, List.drop_zero, List.cons_append, List.nil_append, List.length_cons, List.length_nil, Nat.reduceAdd]
      obtain ⟨q', p1, p2, p3, p4⟩ := h3.fin rfl
      have HX3 : Hid (Below w.heap.size w w3 ∧ w3.ownsRow gt 57 4 (.slice (some ⟨gt, 0, none⟩) n n) n (trows (tl.set j (⟨x.h, x.nd.nx, x.links, false⟩, q'))) ∧ TIs vl (j + 1) (tl.set j (⟨x.h, x.nd.nx, x.links, false⟩, q')) ∧ (∀ i y, i < j + 1 → (tl.set j (⟨x.h, x.nd.nx, x.links, false⟩, q'))[i]? = some y → TAt w3 y.1 y.2 ∧ TFar (some gt) y.1 y.2)) := by
        obtain ⟨q1, q2, ⟨q3, q4⟩, q5⟩ := HX.out
        have hjl : j < tl.length := by rw [HJ.out.2.2.1]; exact hlt
        have hz : w.heap.size ≤ wr.heap.size := q1.size
        refine Lib.hid ⟨(q1.trans (HB2.out.mono hz)).trans (p1.below (by rw [HG.out]; exact Nat.le_refl _) (by have := HB2.out.size; omega)), p2, ⟨by rw [List.length_set]; exact q3, fun i y hi hy => ?_⟩, fun i y hi hy => ?_⟩
        · by_cases e : i = j
          · subst e
            rw [HXx.out] at hy
            cases hy
            exact ⟨q', List.getElem?_set_self hjl⟩
          · rw [List.getElem?_set_ne (fun e2 => e e2.symm)]
            exact q4 i y (by omega) hy
        · by_cases e : i = j
          · subst e
            rw [List.getElem?_set_self hjl] at hy
            cases hy
            exact ⟨p3, p4⟩
          · rw [List.getElem?_set_ne (fun e2 => e e2.symm)] at hy
            obtain ⟨r1, r2⟩ := q5 i y (by omega) hy
            exact ⟨(r1.later HB2.out).same r2 p1.size fun k hk hne => p1.block k hk fun e => hne (by rw [e]), r2⟩
      clear h3 p1 p2 p3 p4 HX HS HJ
      go_wp2_with fail
      first
        | exact ⟨⟨j + 1, _, by simp, by omega, HX3⟩, by simp only [intOf]; omega⟩
        | (go_roundw
           case rel => exact ⟨j + 1, _, by simp, by omega, HX3⟩
           case measure => simp [intOf]; omega)
    · have hlt2 : ¬ (j : Int) < (n : Int) := by omega
      obtain rfl : j = n := by omega
      have HE : Hid (wr.ownsRow w.heap.size 57 4 (.slice (some ⟨gt, 0, none⟩) j j) j (trows tl) ∧ TIs vl j tl ∧ TAll wr gt tl ∧ Below w.heap.size w wr) := by
        obtain ⟨q1, q2, q3, q5⟩ := HX.out
        refine Lib.hid ⟨by rw [← HG.out]; exact q2, q3, fun x hx => ?_, q1⟩
        obtain ⟨i, hi, rfl⟩ := List.mem_iff_getElem.1 hx
        exact q5 i _ (by rw [q3.1, ← HN.out.1] at hi; exact hi) (List.getElem?_eq_getElem hi)
      clear HX
      go_wp2_with fail
      go_ret
      exact ⟨gt, rfl, tl, HE.out⟩
end Go.Proofs.Ytjlifkhpohfiaaa
