/- The reference's Reap and Retire. Conditions: counts and live cells are below 2 to the 61; generations are between 0 and 16384; only what holds something is retired. -/
import Derived.Test.YthdcilbbllldiaaDoorRefF
namespace Go.Proofs.YthdcilbbllldiaaDoor
open Go.RowKit Go.Op
set_option maxRecDepth 100000

theorem give_alloc (w : World) (o : Obj) (c cap : Nat) (m : M) (hA : ∀ w2, Below w.heap.size w w2 → RAt w2 c m) :
    (loadVar 29 ⟨w.heap.size + 1, 0, none⟩).run Tryd.prog ((w.alloc o).alloc (.cells #[.slice (some ⟨c, 0, none⟩) m.cells.length cap, .int .i64 m.count, .int .i64 m.live, .int .i64 m.stale] 29)) = .ok (m.rv c cap) ((w.alloc o).alloc (.cells #[.slice (some ⟨c, 0, none⟩) m.cells.length cap, .int .i64 m.count, .int .i64 m.live, .int .i64 m.stale] 29)) ∧
    RAt ((w.alloc o).alloc (.cells #[.slice (some ⟨c, 0, none⟩) m.cells.length cap, .int .i64 m.count, .int .i64 m.live, .int .i64 m.stale] 29)) c m ∧ Below w.heap.size w ((w.alloc o).alloc (.cells #[.slice (some ⟨c, 0, none⟩) m.cells.length cap, .int .i64 m.count, .int .i64 m.live, .int .i64 m.stale] 29)) := by
  have hs : (w.alloc o).heap.size = w.heap.size + 1 := by simp
  have hb : Below w.heap.size w ((w.alloc o).alloc (.cells #[.slice (some ⟨c, 0, none⟩) m.cells.length cap, .int .i64 m.count, .int .i64 m.live, .int .i64 m.stale] 29)) := ((Below.refl _ _).alloc (Nat.le_refl _) _).alloc (by simp) _
  refine ⟨run_loadVar_mid _ (w.heap.size + 1) 0 29 [.slice (some ⟨c, 0, none⟩) m.cells.length cap, .int .i64 m.count, .int .i64 m.live, .int .i64 m.stale] _ (fun j v hj => ?_) Tryd.underlying29 rfl size31, hA _ hb, hb⟩
  rw [Nat.zero_add, ← hs]
  exact alloc_cell _ _ _ j v (by simpa using hj)

theorem refreap_any (w : World) (c cap : Nat) (m : M) (q below : Int) (hA : RAt w c m) (hO : m.Ok 2305843009213693952) :
    Calls Tryd.prog 40 #[m.rv c cap, .int .i64 q, .int .i64 below] w fun e w' => RRet w c (m.reap q below).1 [.bool (m.reap q below).2.1, .int .i64 (m.reap q below).2.2] e w' := by
  have hc := hO.cnt
  have hst := hO.stl
  have hlv := hO.liv
  have hln := hO.len
  have hlt := hA.lt
  have HE2 : Hid (∀ w2, Below w.heap.size w w2 → RAt w2 c m.ask) := fun w2 hb => (hA.below hb hA.lt).same rfl
  have HE : Hid (∀ w2, Below w.heap.size w w2 → RAt w2 c m) := fun w2 hb => hA.below hb hA.lt
  by_cases hp : q < 0 ∨ (m.cells.length : Int) ≤ q
  · have e1 : m.reap q below = (m.ask, false, 10) := by unfold M.reap; rw [if_pos hp]
    rw [e1]
    clear hA hO e1
    rcases hp with hp | hp
    · unfold M.rv
      go_enter Tryd.func40, Tryd.ntmps40
      go_wp2_with fail
      obtain ⟨g1, g2, g3⟩ := give_alloc w (.cells #[.slice (some ⟨c, 0, none⟩) m.cells.length cap, .int .i64 (m.count + 1), .int .i64 m.live, .int .i64 m.stale] 29) c cap m.ask HE2.out
      exact bodyPost_ret (results_cell3 Tryd.results40 rfl rfl rfl g1) rfl ⟨c, cap, rfl, g2, g3, .inl rfl⟩
    · have hp2 : ¬ q < 0 := by omega
      unfold M.rv
      go_enter Tryd.func40, Tryd.ntmps40
      go_wp2_with fail
      obtain ⟨g1, g2, g3⟩ := give_alloc w (.cells #[.slice (some ⟨c, 0, none⟩) m.cells.length cap, .int .i64 (m.count + 1), .int .i64 m.live, .int .i64 m.stale] 29) c cap m.ask HE2.out
      exact bodyPost_ret (results_cell3 Tryd.results40 rfl rfl rfl g1) rfl ⟨c, cap, rfl, g2, g3, .inl rfl⟩
  · obtain ⟨p, rfl⟩ : ∃ p : Nat, q = (p : Int) := ⟨q.toNat, by omega⟩
    have hl : p < m.cells.length := by omega
    have hl2 : (p : Int) < (m.cells.length : Int) := by omega
    obtain ⟨x, hx⟩ : ∃ x, m.cells[p]? = some x := ⟨_, List.getElem?_eq_getElem hl⟩
    obtain ⟨_, _, _, k3, k4⟩ := hA.cl p x hx
    have hqn : (p : Int).toNat = p := by simp
    by_cases hr : x.ret = true ∧ x.stamp < below
    · have e1 : m.reap (p : Int) below = (m.ask.drop p x, true, 0) := by
        unfold M.reap
        rw [if_neg hp, hqn, hx]
        simp only [if_pos hr]
      rw [e1]
      have HD : Hid (∀ w2, Below w.heap.size w w2 → Calls Tryd.prog 56 #[m.ask.rv c cap, .int .i64 (p : Int)] w2 fun e w' => RNew w2 (m.ask.drop p x) e w') := fun w2 hb =>
        reffree_any w2 c cap m.ask p x ((hA.below hb hA.lt).same rfl) hO.half hx
      obtain ⟨r1, r2⟩ := hr
      rw [r1] at k4
      have g0 : decide (below ≤ x.stamp) = false := decide_eq_false (by omega)
      clear hA hO e1 hx hqn r1 hp
      unfold M.rv
      go_enter Tryd.func40, Tryd.ntmps40
      go_wp2_with fail
      have hP := pre_ask w c cap m
      generalize (w.alloc (Obj.cells #[Value.slice (some ⟨c, 0, none⟩) m.cells.length cap, Value.int IntKind.i64 (m.count + 1), Value.int IntKind.i64 m.live, Value.int IntKind.i64 m.stale] 29)).alloc (Obj.cells #[Value.slice none 0 0, Value.int IntKind.i64 0, Value.int IntKind.i64 0, Value.int IntKind.i64 0] 29) = w1 at hP ⊢
      have HP2 := Lib.hid hP
      clear hP
      refine (HD.out w1 HP2.out.be).mono ?_
      rintro e w3 ⟨c3, cap3, rfl, h3, b3, hc3⟩
      have hP3 := HP2.out.later b3 HP2.out.sz
      have HR3 := Lib.hid hP3.res
      have H3 := Lib.hid h3
      have hs3 := HP2.out.sz
      clear b3 h3 k3 k4
      obtain ⟨a0, a1, a2, a3, q0, q1, q2, q3, fa, fb, sz, _, _⟩ := hP3
      unfold M.rv
      have hcq : c3 ≠ w.heap.size + 1 := by omega
      go_wp2_with fail
      obtain ⟨g1, g2, g3⟩ := give HR3.out cap3 H3.out hcq
      exact bodyPost_ret (results_cell3 Tryd.results40 rfl rfl rfl g1) rfl ⟨c3, cap3, rfl, g2, g3, .inr (by omega)⟩
    · have e1 : m.reap (p : Int) below = (m.ask, false, 0) := by
        unfold M.reap
        rw [if_neg hp, hqn, hx]
        simp only [if_neg hr]
      rw [e1]
      clear hA hO e1 hx hqn hp
      cases hr2 : x.ret with
      | false =>
        rw [hr2] at k4
        clear hr
        unfold M.rv
        go_enter Tryd.func40, Tryd.ntmps40
        go_wp2_with fail
        obtain ⟨g1, g2, g3⟩ := give_alloc w (.cells #[.slice (some ⟨c, 0, none⟩) m.cells.length cap, .int .i64 (m.count + 1), .int .i64 m.live, .int .i64 m.stale] 29) c cap m.ask HE2.out
        exact bodyPost_ret (results_cell3 Tryd.results40 rfl rfl rfl g1) rfl ⟨c, cap, rfl, g2, g3, .inl rfl⟩
      | true =>
        rw [hr2] at k4
        have g0 : decide (below ≤ x.stamp) = true := decide_eq_true (by
          have : ¬ x.stamp < below := fun e => hr ⟨hr2, e⟩
          omega)
        clear hr
        unfold M.rv
        go_enter Tryd.func40, Tryd.ntmps40
        go_wp2_with fail
        obtain ⟨g1, g2, g3⟩ := give_alloc w (.cells #[.slice (some ⟨c, 0, none⟩) m.cells.length cap, .int .i64 (m.count + 1), .int .i64 m.live, .int .i64 m.stale] 29) c cap m.ask HE2.out
        exact bodyPost_ret (results_cell3 Tryd.results40 rfl rfl rfl g1) rfl ⟨c, cap, rfl, g2, g3, .inl rfl⟩
theorem refretire_no (w : World) (c cap : Nat) (m : M) (h s : Int) (hA : RAt w c m) (hO : m.Ok 2305843009213693952) (hs : m.seek h = none) :
    Calls Tryd.prog 39 #[m.rv c cap, .int .i64 h, .int .i64 s] w fun e w' => RRet w c m.miss [.int .i64 5] e w' := by
  have hc := hO.cnt
  have hst := hO.stl
  have hlv := hO.liv
  have hln := hO.len
  have hlt := hA.lt
  have HE : Hid (∀ w2, Below w.heap.size w w2 → RAt w2 c m) := fun w2 hb => hA.below hb hA.lt
  have HP : Hid (∀ w2, Below w.heap.size w w2 → Calls Tryd.prog 55 #[m.ask.rv c cap, .int .i64 h] w2 fun e w' => e = .returned (.int .i64 (-1)) ∧ Below w2.heap.size w2 w') := fun w2 hb =>
    place_no w2 c cap m.ask h ((hA.below hb hA.lt).same rfl) hO.half hs
  clear hA hO hs
  unfold M.rv
  go_enter Tryd.func39, Tryd.ntmps39
  go_wp2_with fail
  have hP := pre_ask w c cap m
  generalize (w.alloc (Obj.cells #[Value.slice (some ⟨c, 0, none⟩) m.cells.length cap, Value.int IntKind.i64 (m.count + 1), Value.int IntKind.i64 m.live, Value.int IntKind.i64 m.stale] 29)).alloc (Obj.cells #[Value.slice none 0 0, Value.int IntKind.i64 0, Value.int IntKind.i64 0, Value.int IntKind.i64 0] 29) = w1 at hP ⊢
  refine (HP.out w1 hP.be).mono ?_
  rintro e w2 ⟨rfl, b2⟩
  have hP2 := hP.later b2 hP.sz
  have HR := Lib.hid hP2.res
  have HX := Lib.hid (HE.out w2 hP2.be)
  obtain ⟨a0, a1, a2, a3, q0, q1, q2, q3, fa, fb, sz, _, _⟩ := hP2
  clear hP b2
  go_wp2_with fail
  obtain ⟨g1, g2, g3⟩ := give (HR.out.set (p := w.heap.size) (i := 3) (u := .int .i64 (m.stale + 1)) (by omega) (Nat.le_refl _)) cap (m := m.miss) (((HX.out.set (p := w.heap.size) (by omega) 3 (.int .i64 (m.stale + 1)))).same rfl) (by omega)
  exact bodyPost_ret (results_cell2 Tryd.results39 rfl rfl g1) rfl ⟨c, cap, rfl, g2, g3, .inl rfl⟩
theorem RC.put3 {w : World} {c o : Nat} {x : Cl} (h : RC w c o x) (t : Int) : RC (w.setCell ⟨c, o + 3, none⟩ (.int .i64 t)) c o { x with stamp := t } :=
  ⟨set_other h.1 (by omega), set_other h.2.1 (by omega), set_other h.2.2.1 (by omega), set_same h.2.2.2.1, set_other h.2.2.2.2 (by omega)⟩
theorem RC.put4 {w : World} {c o : Nat} {x : Cl} (h : RC w c o x) (t : Bool) : RC (w.setCell ⟨c, o + 4, none⟩ (.bool t)) c o { x with ret := t } :=
  ⟨set_other h.1 (by omega), set_other h.2.1 (by omega), set_other h.2.2.1 (by omega), set_other h.2.2.2.1 (by omega), set_same h.2.2.2.2⟩
theorem RC.put1 {w : World} {c o : Nat} {x : Cl} (h : RC w c o x) {t : Held} (ht : t.kd = x.held.kd) : RC (w.setCell ⟨c, o + 1, none⟩ (.int .i64 t.num)) c o { x with held := t } :=
  ⟨by rw [ht]; exact set_other h.1 (by omega), set_same h.2.1, set_other h.2.2.1 (by omega), set_other h.2.2.2.1 (by omega), set_other h.2.2.2.2 (by omega)⟩
set_option maxHeartbeats 2000000 in
theorem refretire_yes (w : World) (c cap : Nat) (m : M) (h s : Int) (p : Nat) (x : Cl) (hA : RAt w c m) (hO : m.Ok 2305843009213693952) (hs : m.seek h = some p) (hx : m.cells[p]? = some x) :
    Calls Tryd.prog 39 #[m.rv c cap, .int .i64 h, .int .i64 s] w fun e w' => RRet w c (m.ask.put p (x.retired s)) [.int .i64 0] e w' := by
  have hc := hO.cnt
  have hst := hO.stl
  have hlv := hO.liv
  have hln := hO.len
  have hlt := hA.lt
  have HE : Hid (∀ w2, Below w.heap.size w w2 → RAt w2 c m) := fun w2 hb => hA.below hb hA.lt
  have HP : Hid (∀ w2, Below w.heap.size w w2 → Calls Tryd.prog 55 #[m.ask.rv c cap, .int .i64 h] w2 fun e w' => e = .returned (.int .i64 (p : Int)) ∧ Below w2.heap.size w2 w') := fun w2 hb =>
    place_yes w2 c cap m.ask h p ((hA.below hb hA.lt).same rfl) hO.half hs
  have hl : p < m.cells.length := (List.getElem?_eq_some_iff.1 hx).1
  have hl2 : (p : Int) < (m.cells.length : Int) := by omega
  by_cases hn : x.ret = true ∧ s ≤ x.stamp
  · have e2 : x.retired s = { x with ret := true } := by
      unfold Cl.retired
      rw [if_pos hn]
    rw [e2]
    have g3 : decide (x.stamp < s) = false := decide_eq_false (by omega)
    have hrt := hn.1
    clear hA hO hs e2 hn
    unfold M.rv
    go_enter Tryd.func39, Tryd.ntmps39
    go_wp2_with fail
    have hP := pre_ask w c cap m
    generalize (w.alloc (Obj.cells #[Value.slice (some ⟨c, 0, none⟩) m.cells.length cap, Value.int IntKind.i64 (m.count + 1), Value.int IntKind.i64 m.live, Value.int IntKind.i64 m.stale] 29)).alloc (Obj.cells #[Value.slice none 0 0, Value.int IntKind.i64 0, Value.int IntKind.i64 0, Value.int IntKind.i64 0] 29) = w1 at hP ⊢
    refine (HP.out w1 hP.be).mono ?_
    rintro e w2 ⟨rfl, b2⟩
    have hP2 := hP.later b2 hP.sz
    have HP2 := Lib.hid hP2
    have hz1 : w.heap.size < w2.heap.size := by have := hP2.sz; omega
    obtain ⟨a0, a1, a2, a3, q0, q1, q2, q3, fa, fb, sz, _, _⟩ := hP2
    clear hP b2
    go_wp2_with (at_builtin; refine append_cells rfl (.tmp 23) (.tmp 25) rfl rfl rfl c cap m.cells rfl (HE.out w2 HP2.out.be).cl (by have := HP2.out.sz; omega) hln ?_; intro g cg w4 hB hge hbe; have hP4 := HP2.out.later hbe HP2.out.sz; have HP4 := Lib.hid hP4; have HRB := Lib.hid hB; have hs2 := HP2.out.sz; have hgs : w.heap.size + 2 ≤ g := (by omega); have hgl := hB.lt; have hn1 : g ≠ w.heap.size := (by omega); have hn2 : g ≠ w.heap.size + 1 := (by omega); obtain ⟨k0, k1, k2, k3, k4⟩ := hB.cl p x hx; have fg := hB.fz; obtain ⟨a0, a1, a2, a3, q0, q1, q2, q3, fa, fb, sz, _, _⟩ := hP4; clear hbe hge hB; rw [hrt] at k4)
    have hX : RAt ((w4.setCell ⟨w.heap.size, 0, none⟩ (.slice (some ⟨g, 0, none⟩) m.cells.length cg)).setCell ⟨g, p * 5 + 4, none⟩ (.bool true)) g (m.ask.put p { x with ret := true }) := by
      have h1 := HRB.out.other (p := w.heap.size) (by omega) 0 (.slice (some ⟨g, 0, none⟩) m.cells.length cg)
      exact (h1.put (i := p) (by omega) ((h1.cl p x hx).put4 true)).at_ (m := m.ask.put p { x with ret := true })
    have hRs : Res w (w.heap.size + 1) ((w4.setCell ⟨w.heap.size, 0, none⟩ (.slice (some ⟨g, 0, none⟩) m.cells.length cg)).setCell ⟨g, p * 5 + 4, none⟩ (.bool true)) := (HP4.out.res.set (by omega) (Nat.le_refl _)).set (by omega) (by omega)
    obtain ⟨g1, g2, g3⟩ := give hRs cg hX (by omega)
    have hlen : (m.ask.put p { x with ret := true }).cells.length = m.cells.length := by simp [M.put, M.ask]
    rw [hlen] at g1 g2 g3
    exact bodyPost_ret (results_cell2 Tryd.results39 rfl rfl g1) rfl ⟨g, cg, rfl, g2, g3, .inr (by omega)⟩
  · have e2 : x.retired s = { x with ret := true, stamp := s } := by
      unfold Cl.retired
      rw [if_neg hn]
    rw [e2]
    have HN : Hid (x.ret = true → x.stamp < s) := fun hr => by
      have : ¬ s ≤ x.stamp := fun e => hn ⟨hr, e⟩
      omega
    clear hA hO hs e2 hn
    cases hrt : x.ret
    all_goals
      unfold M.rv
      go_enter Tryd.func39, Tryd.ntmps39
      go_wp2_with fail
      have hP := pre_ask w c cap m
      generalize (w.alloc (Obj.cells #[Value.slice (some ⟨c, 0, none⟩) m.cells.length cap, Value.int IntKind.i64 (m.count + 1), Value.int IntKind.i64 m.live, Value.int IntKind.i64 m.stale] 29)).alloc (Obj.cells #[Value.slice none 0 0, Value.int IntKind.i64 0, Value.int IntKind.i64 0, Value.int IntKind.i64 0] 29) = w1 at hP ⊢
      refine (HP.out w1 hP.be).mono ?_
      rintro e w2 ⟨rfl, b2⟩
      have hP2 := hP.later b2 hP.sz
      have HP2 := Lib.hid hP2
      have hz1 : w.heap.size < w2.heap.size := by have := hP2.sz; omega
      obtain ⟨a0, a1, a2, a3, q0, q1, q2, q3, fa, fb, sz, _, _⟩ := hP2
      clear hP b2
      go_wp2_with (at_builtin; refine append_cells rfl (.tmp 23) (.tmp 25) rfl rfl rfl c cap m.cells rfl (HE.out w2 HP2.out.be).cl (by have := HP2.out.sz; omega) hln ?_; intro g cg w4 hB hge hbe; have hP4 := HP2.out.later hbe HP2.out.sz; have HP4 := Lib.hid hP4; have HRB := Lib.hid hB; have hs2 := HP2.out.sz; have hgs : w.heap.size + 2 ≤ g := (by omega); have hgl := hB.lt; have hn1 : g ≠ w.heap.size := (by omega); have hn2 : g ≠ w.heap.size + 1 := (by omega); obtain ⟨k0, k1, k2, k3, k4⟩ := hB.cl p x hx; have fg := hB.fz; obtain ⟨a0, a1, a2, a3, q0, q1, q2, q3, fa, fb, sz, _, _⟩ := hP4; clear hbe hge hB; rw [hrt] at k4; have g3 : x.ret = true → decide (x.stamp < s) = true := (fun e => decide_eq_true (HN.out e)); rw [hrt] at g3; try replace g3 := g3 rfl)
      have hX : RAt (((w4.setCell ⟨w.heap.size, 0, none⟩ (.slice (some ⟨g, 0, none⟩) m.cells.length cg)).setCell ⟨g, p * 5 + 3, none⟩ (.int .i64 s)).setCell ⟨g, p * 5 + 4, none⟩ (.bool true)) g (m.ask.put p { x with ret := true, stamp := s }) := by
        have h1 := HRB.out.other (p := w.heap.size) (by omega) 0 (.slice (some ⟨g, 0, none⟩) m.cells.length cg)
        have q3' := (h1.cl p x hx).put3 s
        have h2 := h1.put (i := p) (by omega) q3'
        have h3 := h2.put (i := p) (by omega) (q3'.put4 true)
        rw [List.set_set] at h3
        exact h3.at_ (m := m.ask.put p { x with ret := true, stamp := s })
      have hRs : Res w (w.heap.size + 1) (((w4.setCell ⟨w.heap.size, 0, none⟩ (.slice (some ⟨g, 0, none⟩) m.cells.length cg)).setCell ⟨g, p * 5 + 3, none⟩ (.int .i64 s)).setCell ⟨g, p * 5 + 4, none⟩ (.bool true)) := ((HP4.out.res.set (by omega) (Nat.le_refl _)).set (by omega) (by omega)).set (by omega) (by omega)
      obtain ⟨g1, g2, g3⟩ := give hRs cg hX (by omega)
      have hlen : (m.ask.put p { x with ret := true, stamp := s }).cells.length = m.cells.length := by simp [M.put, M.ask]
      rw [hlen] at g1 g2 g3
      exact bodyPost_ret (results_cell2 Tryd.results39 rfl rfl g1) rfl ⟨g, cg, rfl, g2, g3, .inr (by omega)⟩
end Go.Proofs.YthdcilbbllldiaaDoor
