/- The reference's Alloc. Conditions: counts and live cells are below 2 to the 61; generations are between 0 and 16384; what is put isn't nothing. -/
import Derived.Test.YthdcilbbllldiaaDoorRefH
import Derived.Deep.RegionWith
namespace Go.Proofs.YthdcilbbllldiaaDoor
open Go.RowKit Go.Op
set_option maxRecDepth 100000

theorem least_is {m : M} {i : Nat} (hb : ∀ k x, k < i → m.cells[k]? = some x → x.can = false) {x : Cl} (hx : m.cells[i]? = some x) (hc : x.can = true) : m.least = i := by
  have hl : i < m.flags.length := by simpa [M.flags] using (List.getElem?_eq_some_iff.1 hx).1
  unfold M.least
  rw [List.findIdx_eq hl]
  refine ⟨?_, fun j hj => ?_⟩
  · have := (List.getElem?_eq_some_iff.1 (flags_at hx)).2
    rw [this]; exact hc
  · have hj2 : j < m.cells.length := by have : m.flags.length = m.cells.length := by simp [M.flags]
                                        omega
    have e1 := hb j m.cells[j] hj (List.getElem?_eq_getElem hj2)
    have := (List.getElem?_eq_some_iff.1 (flags_at (List.getElem?_eq_getElem hj2))).2
    rw [this]; exact e1
/-- What an unfreed cell's handle finds. -/

theorem RC.put0 {w : World} {c o : Nat} {x : Cl} (h : RC w c o x) (t : Held) : RC ((w.setCell ⟨c, o, none⟩ (.int .i64 t.kd)).setCell ⟨c, o + 1, none⟩ (.int .i64 t.num)) c o { x with held := t } :=
  ⟨set_other (set_same h.1) (by omega), set_same (set_other h.2.1 (by omega)), set_other (set_other h.2.2.1 (by omega)) (by omega), set_other (set_other h.2.2.2.1 (by omega)) (by omega), set_other (set_other h.2.2.2.2 (by omega)) (by omega)⟩
theorem RB.put01 {w : World} {g : Nat} {L : List Cl} (h : RB w g L) {i : Nat} {x : Cl} (hx : L[i]? = some x) (t : Held) : RB ((w.setCell ⟨g, i * 5, none⟩ (.int .i64 t.kd)).setCell ⟨g, i * 5 + 1, none⟩ (.int .i64 t.num)) g (L.set i { x with held := t }) := by
  have e : ∀ (W : World) (a : Addr) (u : Value), (W.setCell a u).heap.size = W.heap.size := fun W a u => by simp [World.setCell]
  refine ⟨by rw [e, e]; exact h.lt, fun k z hz => ?_, fun j => by rw [World.frozen?_setCell, World.frozen?_setCell]; exact h.fz j⟩
  rw [List.getElem?_set] at hz
  split at hz
  · rename_i ek
    subst ek
    split at hz
    · cases hz
      exact (h.cl i x hx).put0 t
    · cases hz
  · rename_i ek
    exact ((h.cl k z hz).other (.inr (by omega)) _).other (.inr (by omega)) _
theorem Pre.set2 {w W : World} {p : Nat} {x y : Value} {n1 n2 n3 m1 m2 m3 : Int} (h : Pre w p x y n1 n2 n3 m1 m2 m3 W) (k : Int) : Pre w p x y n1 k n3 m1 m2 m3 (W.setCell ⟨p, 2, none⟩ (.int .i64 k)) := by
  have e : (W.setCell ⟨p, 2, none⟩ (.int .i64 k)).heap.size = W.heap.size := by simp [World.setCell]
  exact ⟨set_other h.a0 (by omega), set_other h.a1 (by omega), set_same h.a2, set_other h.a3 (by omega), set_other h.b0 (by omega), set_other h.b1 (by omega), set_other h.b2 (by omega), set_other h.b3 (by omega),
    fun i => by rw [World.frozen?_setCell]; exact h.fa i, fun i => by rw [World.frozen?_setCell]; exact h.fb i, by rw [e]; exact h.sz, h.be.setCell (p := ⟨p, 2, none⟩) h.hp _, h.hp⟩
theorem give2_drew {w X : World} {q : Nat} (h : Res w q X) {c : Nat} (cap : Nat) {m : M} (hA : RAt X c m) (hc : c ≠ q) {L : Nat} {n1 n2 n3 : Int} (e0 : m.cells.length = L) (e1 : m.count = n1) (e2 : m.live = n2) (e3 : m.stale = n3) :
    (loadVar 29 ⟨q, 0, none⟩).run Tryd.prog ((((X.setCell ⟨q, 0, none⟩ (.slice (some ⟨c, 0, none⟩) L cap)).setCell ⟨q, 1, none⟩ (.int .i64 n1)).setCell ⟨q, 2, none⟩ (.int .i64 n2)).setCell ⟨q, 3, none⟩ (.int .i64 n3)).drew = .ok (m.rv c cap) ((((X.setCell ⟨q, 0, none⟩ (.slice (some ⟨c, 0, none⟩) L cap)).setCell ⟨q, 1, none⟩ (.int .i64 n1)).setCell ⟨q, 2, none⟩ (.int .i64 n2)).setCell ⟨q, 3, none⟩ (.int .i64 n3)).drew ∧
    RAt ((((X.setCell ⟨q, 0, none⟩ (.slice (some ⟨c, 0, none⟩) L cap)).setCell ⟨q, 1, none⟩ (.int .i64 n1)).setCell ⟨q, 2, none⟩ (.int .i64 n2)).setCell ⟨q, 3, none⟩ (.int .i64 n3)).drew c m ∧ Below w.heap.size w ((((X.setCell ⟨q, 0, none⟩ (.slice (some ⟨c, 0, none⟩) L cap)).setCell ⟨q, 1, none⟩ (.int .i64 n1)).setCell ⟨q, 2, none⟩ (.int .i64 n2)).setCell ⟨q, 3, none⟩ (.int .i64 n3)).drew := by
  subst e0 e1 e2 e3
  exact give_drew h cap hA hc
theorem kd_zero (x : Held) (h : x.busy = false) : x.kd = 0 := by
  cases x
  · rfl
  · cases h
  · cases h

set_option maxHeartbeats 4000000 in
theorem refalloc_any (w : World) (c cap : Nat) (m : M) (t : Held) (hA : RAt w c m) (hO : m.Ok 2305843009213693952) :
    Calls Tryd.prog 34 #[m.rv c cap, .int .i64 t.kd, .int .i64 t.num] w fun e w' => RRet w c (m.alloc t).1 [.int .i64 (m.alloc t).2.1, .int .i64 (m.alloc t).2.2] e w' := by
  have hln := hO.len
  have hlt := hA.lt
  have hc := hO.cnt
  have hlv := hO.liv
  have hst := hO.stl
  have HG := Lib.hid hO.gen
  have HA := Lib.hid hA
  obtain ⟨R, hR⟩ : ∃ R, R = m.alloc t := ⟨_, rfl⟩
  rw [← hR]
  have HT : Hid (R = m.ask.take t) := hR
  clear hR
  generalize hkd : t.kd = kd
  generalize hnm : t.num = nm
  have HKD := Lib.hid hkd
  have HNM := Lib.hid hnm
  clear hA hO hkd hnm
  unfold M.rv
  go_enter Tryd.func34, Tryd.ntmps34
  go_wp2_with fail
  have hP := pre_two w (.slice (some ⟨c, 0, none⟩) m.cells.length cap) (.slice none 0 0) (m.count + 1) m.live m.stale 0 0 0
  generalize (w.alloc (Obj.cells #[Value.slice (some ⟨c, 0, none⟩) m.cells.length cap, Value.int IntKind.i64 (m.count + 1), Value.int IntKind.i64 m.live, Value.int IntKind.i64 m.stale] 29)).alloc (Obj.cells #[Value.slice none 0 0, Value.int IntKind.i64 0, Value.int IntKind.i64 0, Value.int IntKind.i64 0] 29) = w1 at hP ⊢
  have HP := Lib.hid hP
  have hz1 : w.heap.size < w1.heap.size := by have := hP.sz; omega
  have hA1 := Lib.hid (HA.out.below hP.be hlt)
  obtain ⟨a0, a1, a2, a3, q0, q1, q2, q3, fa, fb, sz, _, _⟩ := hP
  go_loop [9] (fun iv => ∃ i : Nat, i ≤ m.cells.length ∧ iv = .int .i64 (i : Int) ∧ Hid (∀ k x, k < i → m.cells[k]? = some x → x.can = false)) (fun iv => m.cells.length - (intOf iv).toNat)
  case atStart => exact ⟨0, by omega, rfl, fun k x hk => absurd hk (by omega)⟩
  case round =>
    obtain ⟨i, hi, rfl, hz⟩ := hrel
    by_cases hlt2 : i < m.cells.length
    · have i1 : (i : Int) < (m.cells.length : Int) := by omega
      obtain ⟨x, hx⟩ : ∃ x, m.cells[i]? = some x := ⟨_, List.getElem?_eq_getElem hlt2⟩
      obtain ⟨k0, _, k2, _, _⟩ := hA1.out.cl i x hx
      have hkb := kd_busy x.held
      cases hcan : x.can with
      | false =>
        have HZ : Hid (∀ k y, k < i + 1 → m.cells[k]? = some y → y.can = false) := fun k y hk hy => by
          by_cases e : k = i
          · subst e
            rw [hx] at hy
            cases hy
            exact hcan
          · exact hz k y (by omega) hy
        clear hz
        cases hb : x.held.busy with
        | true =>
          rw [hb] at hkb
          have hk2 : (x.held.kd == 0) = false := hkb
          clear hkb hcan hx
          go_wp2
          go_round
          case rel => exact ⟨i + 1, by omega, by go_num, HZ⟩
          case measure => simp [intOf]; omega
        | false =>
          rw [hb] at hkb
          have hk2 : (x.held.kd == 0) = true := hkb
          have hgn : ¬ x.gen ≤ 16383 := by
            intro e
            have : x.can = true := by simp [Cl.can, hb, e]
            rw [this] at hcan
            cases hcan
          clear hkb hcan hx
          go_wp2
          go_round
          case rel => exact ⟨i + 1, by omega, by go_num, HZ⟩
          case measure => simp [intOf]; omega
      | true =>
        obtain ⟨hb, hgn⟩ := can_is hcan
        obtain ⟨hg0, _, _, _⟩ := HG.out i x hx
        rw [hb] at hkb
        have hk2 : (x.held.kd == 0) = true := hkb
        have hls : m.ask.least = i := least_is (m := m.ask) (fun k y hk hy => hz k y hk hy) hx hcan
        have HRR : Hid (R = ({ m.ask with cells := m.cells.set i { x with held := t }, live := m.live + 1 }, hand i x.gen, 0)) := by
          rw [HT.out]
          unfold M.take
          rw [hls, show m.ask.cells[i]? = some x from hx]
          rfl
        clear hz hkb hcan hb hls
        go_wp2_with (at_builtin; refine append_cells rfl (.tmp 37) (.tmp 39) rfl rfl rfl c cap m.cells rfl hA1.out.cl (by omega) hln ?_; intro g cg w4 hB hge hbe; have hP4 := HP.out.later hbe HP.out.sz; have HP4 := Lib.hid hP4; have HRB := Lib.hid hB; have hs2 := HP.out.sz; have hgs : w.heap.size + 2 ≤ g := (by omega); have hgl := hB.lt; have hn1 : g ≠ w.heap.size := (by omega); have hn2 : g ≠ w.heap.size + 1 := (by omega); obtain ⟨e0, e1, e2, e3, e4⟩ := hB.cl i x hx; have fg := hB.fz; obtain ⟨a0, a1, a2, a3, q0, q1, q2, q3, fa, fb, sz, _, _⟩ := hP4; clear hbe hge hB)
        obtain ⟨w5, hw5⟩ : ∃ W, W = ((((w4.setCell ⟨w.heap.size, 0, none⟩ (.slice (some ⟨g, 0, none⟩) m.cells.length cg)).setCell ⟨g, i * 5, none⟩ (.int .i64 kd)).setCell ⟨g, i * 5 + 1, none⟩ (.int .i64 nm)).setCell ⟨w.heap.size, 2, none⟩ (.int .i64 (m.live + 1))) := ⟨_, rfl⟩
        rw [← hw5]
        have hx5 : RB w5 g (m.cells.set i { x with held := t }) := by
          rw [hw5, ← HKD.out, ← HNM.out]
          exact ((HRB.out.other (p := w.heap.size) (by omega) 0 (.slice (some ⟨g, 0, none⟩) m.cells.length cg)).put01 hx t).other (p := w.heap.size) (by omega) 2 _
        have hp5 : Pre w w.heap.size (.slice (some ⟨g, 0, none⟩) m.cells.length cg) (.slice none 0 0) (m.count + 1) (m.live + 1) m.stale 0 0 0 w5 := by
          have hgg : g ≠ w.heap.size ∧ g ≠ w.heap.size + 1 ∧ w.heap.size ≤ g := by omega
          rw [hw5]
          exact (((HP4.out.set0 _).other hgg _ _).other hgg _ _).set2 _
        have hc5 : w5.cell? ⟨g, i * 5 + 2, none⟩ = some (.int .i64 x.gen) := (hx5.cl i { x with held := t } (List.getElem?_set_self hlt2)).2.2.1
        have HX5 := Lib.hid hx5
        have HP5 := Lib.hid hp5
        clear hw5 hx5 e0 e1 e2 e3 e4 fg a0 a1 a2 a3 q0 q1 q2 q3 fa fb k0 k2
        obtain ⟨a0, a1, a2, a3, q0, q1, q2, q3, fa, fb, _, _, _⟩ := hp5
        go_region_with (go_at_call 54; refine (refhandle_any _ _ _).mono ?_; rintro e w6 ⟨rfl, rfl⟩)
        all_goals
          go_wp2_with fail
          obtain ⟨g1, g2, g3⟩ := give2_drew HP5.out.res cg (m := { m.ask with cells := m.cells.set i { x with held := t }, live := m.live + 1 }) (HX5.out.at_ (m := { m.ask with cells := m.cells.set i { x with held := t }, live := m.live + 1 })) (by omega) (L := m.cells.length) (n1 := m.count + 1) (n2 := m.live + 1) (n3 := m.stale) (by simp) rfl rfl rfl
          rw [HRR.out]
          exact bodyPost_ret (results_cell3 Tryd.results34 rfl rfl rfl g1) rfl ⟨g, cg, rfl, g2, g3, .inr (by omega)⟩
    · have i1 : ¬ (i : Int) < (m.cells.length : Int) := by omega
      obtain rfl : i = m.cells.length := by omega
      have hls : m.ask.least = m.cells.length := by
        have hfl : m.ask.flags.length = m.cells.length := by simp [M.flags, M.ask]
        show m.ask.flags.findIdx id = _
        rw [← hfl, List.findIdx_eq_length]
        intro y hy
        simp only [M.flags, List.mem_map] at hy
        obtain ⟨z, hz2, rfl⟩ := hy
        obtain ⟨k, hk, rfl⟩ := List.mem_iff_getElem.1 hz2
        exact hz k _ hk (List.getElem?_eq_getElem hk)
      have HRR : Hid (R = (m.ask, 0, 3)) := by
        rw [HT.out]
        unfold M.take
        rw [hls, show m.ask.cells[m.cells.length]? = none from List.getElem?_eq_none (Nat.le_refl _)]
        rfl
      clear hz hls
      go_wp2_with fail
      obtain ⟨g1, g2, g3⟩ := give2 HP.out.res cap (m := m.ask) (hA1.out.same rfl) (by omega) (L := m.cells.length) (n1 := m.count + 1) (n2 := m.live) (n3 := m.stale) rfl rfl rfl rfl
      rw [HRR.out]
      exact bodyPost_ret (results_cell3 Tryd.results34 rfl rfl rfl g1) rfl ⟨c, cap, rfl, g2, g3, .inl rfl⟩
end Go.Proofs.YthdcilbbllldiaaDoor
