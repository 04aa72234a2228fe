/- The reference's Swap. Conditions: counts and live cells are below 2 to the 61; generations are between 0 and 16384. -/
import Derived.Test.YthdcilbbllldiaaDoorRefG
namespace Go.Proofs.YthdcilbbllldiaaDoor
open Go.RowKit Go.Op
set_option maxRecDepth 100000

theorem give2 {w X : World} {q : Nat} (h : Res w q X) {c : Nat} (cap : Nat) {m : M} (hA : RAt X c m) (hc : c ≠ q) {L : Nat} {n1 n2 n3 : Int} (e0 : m.cells.length = L) (e1 : m.count = n1) (e2 : m.live = n2) (e3 : m.stale = n3) :
    (loadVar 29 ⟨q, 0, none⟩).run Tryd.prog ((((X.setCell ⟨q, 0, none⟩ (.slice (some ⟨c, 0, none⟩) L cap)).setCell ⟨q, 1, none⟩ (.int .i64 n1)).setCell ⟨q, 2, none⟩ (.int .i64 n2)).setCell ⟨q, 3, none⟩ (.int .i64 n3)) = .ok (m.rv c cap) ((((X.setCell ⟨q, 0, none⟩ (.slice (some ⟨c, 0, none⟩) L cap)).setCell ⟨q, 1, none⟩ (.int .i64 n1)).setCell ⟨q, 2, none⟩ (.int .i64 n2)).setCell ⟨q, 3, none⟩ (.int .i64 n3)) ∧ RAt ((((X.setCell ⟨q, 0, none⟩ (.slice (some ⟨c, 0, none⟩) L cap)).setCell ⟨q, 1, none⟩ (.int .i64 n1)).setCell ⟨q, 2, none⟩ (.int .i64 n2)).setCell ⟨q, 3, none⟩ (.int .i64 n3)) c m ∧ Below w.heap.size w ((((X.setCell ⟨q, 0, none⟩ (.slice (some ⟨c, 0, none⟩) L cap)).setCell ⟨q, 1, none⟩ (.int .i64 n1)).setCell ⟨q, 2, none⟩ (.int .i64 n2)).setCell ⟨q, 3, none⟩ (.int .i64 n3)) := by
  subst e0 e1 e2 e3
  exact give h cap hA hc
/-- A whole memory is stored into the call's own variable. -/
def four (W : World) (p : Nat) (x : Value) (n1 n2 n3 : Int) : World := (((W.setCell ⟨p, 0, none⟩ x).setCell ⟨p, 1, none⟩ (.int .i64 n1)).setCell ⟨p, 2, none⟩ (.int .i64 n2)).setCell ⟨p, 3, none⟩ (.int .i64 n3)
theorem Pre.row {w W : World} {p : Nat} {x y : Value} {n1 n2 n3 m1 m2 m3 : Int} (h : Pre w p x y n1 n2 n3 m1 m2 m3 W) (x' : Value) (k1 k2 k3 : Int) : Pre w p x' y k1 k2 k3 m1 m2 m3 (four W p x' k1 k2 k3) := by
  have e : ∀ (W : World) (a : Addr) (u : Value), (W.setCell a u).heap.size = W.heap.size := fun W a u => by simp [World.setCell]
  unfold four
  refine ⟨?_, ?_, ?_, ?_, ?_, ?_, ?_, ?_, fun i => ?_, fun i => ?_, by rw [e, e, e, e]; exact h.sz, (((h.be.setCell (p := ⟨p, 0, none⟩) h.hp _).setCell (p := ⟨p, 1, none⟩) h.hp _).setCell (p := ⟨p, 2, none⟩) h.hp _).setCell (p := ⟨p, 3, none⟩) h.hp _, h.hp⟩
  · exact set_other (set_other (set_other (set_same h.a0) (by omega)) (by omega)) (by omega)
  · exact set_other (set_other (set_same (set_other h.a1 (by omega))) (by omega)) (by omega)
  · exact set_other (set_same (set_other (set_other h.a2 (by omega)) (by omega))) (by omega)
  · exact set_same (set_other (set_other (set_other h.a3 (by omega)) (by omega)) (by omega))
  · exact set_other (set_other (set_other (set_other h.b0 (by omega)) (by omega)) (by omega)) (by omega)
  · exact set_other (set_other (set_other (set_other h.b1 (by omega)) (by omega)) (by omega)) (by omega)
  · exact set_other (set_other (set_other (set_other h.b2 (by omega)) (by omega)) (by omega)) (by omega)
  · exact set_other (set_other (set_other (set_other h.b3 (by omega)) (by omega)) (by omega)) (by omega)
  · rw [World.frozen?_setCell, World.frozen?_setCell, World.frozen?_setCell, World.frozen?_setCell]; exact h.fa i
  · rw [World.frozen?_setCell, World.frozen?_setCell, World.frozen?_setCell, World.frozen?_setCell]; exact h.fb i
theorem RAt.four {w : World} {c : Nat} {m : M} (h : RAt w c m) {p : Nat} (hp : p ≠ c) (x : Value) (n1 n2 n3 : Int) : RAt (four w p x n1 n2 n3) c m :=
  (((h.set hp 0 _).set hp 1 _).set hp 2 _).set hp 3 _

set_option maxHeartbeats 4000000 in
theorem rs_no (w : World) (c cap : Nat) (m : M) (h old n : Int) (al : Bool) (hA : RAt w c m) (hO : m.Ok 2305843009213693952) (hs : m.seek h = none) :
    Calls Tryd.prog 36 #[m.rv c cap, .int .i64 h, .int .i64 old, .int .i64 n, .bool al] w fun e w' => RRet w c m.miss [.bool false, .int .i64 5] e w' := by
  have hln := hO.len
  have hlt := hA.lt
  have hc := hO.cnt
  have hlv := hO.liv
  have hst := hO.stl
  have HL : Hid (∀ w2, Below w.heap.size w w2 → Calls Tryd.prog 35 #[m.rv c cap, .int .i64 h, .int .i64 1] w2 fun e w' => RRet w2 c m.miss [.int .i64 0, .int .i64 5] e w') := fun w2 hb => look_no w2 c cap m h 1 (hA.below hb hA.lt) hO hs
  clear hA hO hs
  unfold M.rv
  go_enter Tryd.func36, Tryd.ntmps36
  go_wp2_with fail
  have hP := pre_two w (.slice (some ⟨c, 0, none⟩) m.cells.length cap) (.slice none 0 0) m.count m.live m.stale 0 0 0
  generalize (w.alloc (Obj.cells #[Value.slice (some ⟨c, 0, none⟩) m.cells.length cap, Value.int IntKind.i64 m.count, Value.int IntKind.i64 m.live, Value.int IntKind.i64 m.stale] 29)).alloc (Obj.cells #[Value.slice none 0 0, Value.int IntKind.i64 0, Value.int IntKind.i64 0, Value.int IntKind.i64 0] 29) = w1 at hP ⊢
  refine (HL.out w1 hP.be).mono ?_
  rintro e w2 ⟨c2, cap2, rfl, h2, b2, hc2⟩
  have hP2 := hP.later b2 hP.sz
  have HP2 := Lib.hid hP2
  have H2 := Lib.hid h2
  have hz0 := hP.sz
  have hn1 : c2 ≠ w.heap.size := by omega
  have hn2 : c2 ≠ w.heap.size + 1 := by omega
  obtain ⟨a0, a1, a2, a3, q0, q1, q2, q3, fa, fb, sz, _, _⟩ := hP2
  clear hP b2 h2
  rw [show (m.miss).rv c2 cap2 = .agg #[.slice (some ⟨c2, 0, none⟩) m.cells.length cap2, .int .i64 (m.count + 1), .int .i64 m.live, .int .i64 (m.stale + 1)] from rfl]
  go_wp2_with fail
  obtain ⟨g1, g2, g3⟩ := give2 (HP2.out.row (.slice (some ⟨c2, 0, none⟩) m.cells.length cap2) (m.count + 1) m.live (m.stale + 1)).res cap2 (m := m.miss) (H2.out.four (p := w.heap.size) (by omega) (.slice (some ⟨c2, 0, none⟩) m.cells.length cap2) (m.count + 1) m.live (m.stale + 1)) hn2 (L := m.cells.length) (n1 := m.count + 1) (n2 := m.live) (n3 := (m.stale + 1)) rfl rfl rfl rfl
  unfold four at g1 g2 g3
  exact bodyPost_ret (results_cell3 Tryd.results36 rfl rfl rfl g1) rfl ⟨c2, cap2, rfl, g2, g3, by rcases hc2 with hc2 | hc2; exact .inl hc2; exact .inr (by omega)⟩
set_option maxHeartbeats 4000000 in
theorem rs_note (w : World) (c cap : Nat) (m : M) (h old n : Int) (al : Bool) (p : Nat) (x : Cl) (k : Int) (hA : RAt w c m) (hO : m.Ok 2305843009213693952) (hs : m.seek h = some p) (hx : m.cells[p]? = some x) (hh : x.held = .note k) :
    Calls Tryd.prog 36 #[m.rv c cap, .int .i64 h, .int .i64 old, .int .i64 n, .bool al] w fun e w' => RRet w c m.ask [.bool false, .int .i64 6] e w' := by
  have hln := hO.len
  have hlt := hA.lt
  have hc := hO.cnt
  have hlv := hO.liv
  have hst := hO.stl
  have HL : Hid (∀ w2, Below w.heap.size w w2 → Calls Tryd.prog 35 #[m.rv c cap, .int .i64 h, .int .i64 1] w2 fun e w' => RRet w2 c m.ask [.int .i64 0, .int .i64 6] e w') := fun w2 hb => look_other w2 c cap m h 1 p x (hA.below hb hA.lt) hO hs hx (by rw [hh]; show ¬ (2 : Int) = 1; decide)
  clear hA hO hs
  unfold M.rv
  go_enter Tryd.func36, Tryd.ntmps36
  go_wp2_with fail
  have hP := pre_two w (.slice (some ⟨c, 0, none⟩) m.cells.length cap) (.slice none 0 0) m.count m.live m.stale 0 0 0
  generalize (w.alloc (Obj.cells #[Value.slice (some ⟨c, 0, none⟩) m.cells.length cap, Value.int IntKind.i64 m.count, Value.int IntKind.i64 m.live, Value.int IntKind.i64 m.stale] 29)).alloc (Obj.cells #[Value.slice none 0 0, Value.int IntKind.i64 0, Value.int IntKind.i64 0, Value.int IntKind.i64 0] 29) = w1 at hP ⊢
  refine (HL.out w1 hP.be).mono ?_
  rintro e w2 ⟨c2, cap2, rfl, h2, b2, hc2⟩
  have hP2 := hP.later b2 hP.sz
  have HP2 := Lib.hid hP2
  have H2 := Lib.hid h2
  have hz0 := hP.sz
  have hn1 : c2 ≠ w.heap.size := by omega
  have hn2 : c2 ≠ w.heap.size + 1 := by omega
  obtain ⟨a0, a1, a2, a3, q0, q1, q2, q3, fa, fb, sz, _, _⟩ := hP2
  clear hP b2 h2
  rw [show (m.ask).rv c2 cap2 = .agg #[.slice (some ⟨c2, 0, none⟩) m.cells.length cap2, .int .i64 (m.count + 1), .int .i64 m.live, .int .i64 m.stale] from rfl]
  go_wp2_with fail
  obtain ⟨g1, g2, g3⟩ := give2 (HP2.out.row (.slice (some ⟨c2, 0, none⟩) m.cells.length cap2) (m.count + 1) m.live m.stale).res cap2 (m := m.ask) (H2.out.four (p := w.heap.size) (by omega) (.slice (some ⟨c2, 0, none⟩) m.cells.length cap2) (m.count + 1) m.live m.stale) hn2 (L := m.cells.length) (n1 := m.count + 1) (n2 := m.live) (n3 := m.stale) rfl rfl rfl rfl
  unfold four at g1 g2 g3
  exact bodyPost_ret (results_cell3 Tryd.results36 rfl rfl rfl g1) rfl ⟨c2, cap2, rfl, g2, g3, by rcases hc2 with hc2 | hc2; exact .inl hc2; exact .inr (by omega)⟩
set_option maxHeartbeats 4000000 in
theorem rs_keep (w : World) (c cap : Nat) (m : M) (h old n : Int) (p : Nat) (x : Cl) (k : Int) (hA : RAt w c m) (hO : m.Ok 2305843009213693952) (hs : m.seek h = some p) (hx : m.cells[p]? = some x) (hh : x.held = .word k) (hk : ¬ k = old) :
    Calls Tryd.prog 36 #[m.rv c cap, .int .i64 h, .int .i64 old, .int .i64 n, .bool false] w fun e w' => RRet w c m.ask [.bool false, .int .i64 0] e w' := by
  have hln := hO.len
  have hlt := hA.lt
  have hc := hO.cnt
  have hlv := hO.liv
  have hst := hO.stl
  have HL : Hid (∀ w2, Below w.heap.size w w2 → Calls Tryd.prog 35 #[m.rv c cap, .int .i64 h, .int .i64 1] w2 fun e w' => RRet w2 c m.ask [.int .i64 k, .int .i64 0] e w') := fun w2 hb => by
    have := look_this w2 c cap m h p x (hA.below hb hA.lt) hO hs hx
    rw [hh] at this
    exact this
  have hk2 : (k != old) = true := by simpa using hk
  clear hA hO hs hx hh hk
  unfold M.rv
  go_enter Tryd.func36, Tryd.ntmps36
  go_wp2_with fail
  have hP := pre_two w (.slice (some ⟨c, 0, none⟩) m.cells.length cap) (.slice none 0 0) m.count m.live m.stale 0 0 0
  generalize (w.alloc (Obj.cells #[Value.slice (some ⟨c, 0, none⟩) m.cells.length cap, Value.int IntKind.i64 m.count, Value.int IntKind.i64 m.live, Value.int IntKind.i64 m.stale] 29)).alloc (Obj.cells #[Value.slice none 0 0, Value.int IntKind.i64 0, Value.int IntKind.i64 0, Value.int IntKind.i64 0] 29) = w1 at hP ⊢
  refine (HL.out w1 hP.be).mono ?_
  rintro e w2 ⟨c2, cap2, rfl, h2, b2, hc2⟩
  have hP2 := hP.later b2 hP.sz
  have HP2 := Lib.hid hP2
  have H2 := Lib.hid h2
  have hz0 := hP.sz
  have hn1 : c2 ≠ w.heap.size := by omega
  have hn2 : c2 ≠ w.heap.size + 1 := by omega
  obtain ⟨a0, a1, a2, a3, q0, q1, q2, q3, fa, fb, sz, _, _⟩ := hP2
  clear hP b2 h2
  rw [show (m.ask).rv c2 cap2 = .agg #[.slice (some ⟨c2, 0, none⟩) m.cells.length cap2, .int .i64 (m.count + 1), .int .i64 m.live, .int .i64 m.stale] from rfl]
  go_wp2_with fail
  obtain ⟨g1, g2, g3⟩ := give2 (HP2.out.row (.slice (some ⟨c2, 0, none⟩) m.cells.length cap2) (m.count + 1) m.live m.stale).res cap2 (m := m.ask) (H2.out.four (p := w.heap.size) (by omega) (.slice (some ⟨c2, 0, none⟩) m.cells.length cap2) (m.count + 1) m.live m.stale) hn2 (L := m.cells.length) (n1 := m.count + 1) (n2 := m.live) (n3 := m.stale) rfl rfl rfl rfl
  unfold four at g1 g2 g3
  exact bodyPost_ret (results_cell3 Tryd.results36 rfl rfl rfl g1) rfl ⟨c2, cap2, rfl, g2, g3, by rcases hc2 with hc2 | hc2; exact .inl hc2; exact .inr (by omega)⟩
set_option maxHeartbeats 4000000 in
theorem rs_put (w : World) (c cap : Nat) (m : M) (h old n : Int) (al : Bool) (p : Nat) (x : Cl) (k : Int) (hA : RAt w c m) (hO : m.Ok 2305843009213693952) (hs : m.seek h = some p) (hx : m.cells[p]? = some x) (hh : x.held = .word k) (hk : al = true ∨ k = old) :
    Calls Tryd.prog 36 #[m.rv c cap, .int .i64 h, .int .i64 old, .int .i64 n, .bool al] w fun e w' => RRet w c (m.ask.put p { x with held := .word n }) [.bool true, .int .i64 0] e w' := by
  have hln := hO.len
  have hlt := hA.lt
  have hc := hO.cnt
  have hlv := hO.liv
  have hst := hO.stl
  have HL : Hid (∀ w2, Below w.heap.size w w2 → Calls Tryd.prog 35 #[m.rv c cap, .int .i64 h, .int .i64 1] w2 fun e w' => RRet w2 c m.ask [.int .i64 k, .int .i64 0] e w') := fun w2 hb => by
    have := look_this w2 c cap m h p x (hA.below hb hA.lt) hO hs hx
    rw [hh] at this
    exact this
  have HPL : Hid (∀ c2 cap2 w2, RAt w2 c2 m.ask → Calls Tryd.prog 55 #[m.ask.rv c2 cap2, .int .i64 h] w2 fun e w' => e = .returned (.int .i64 (p : Int)) ∧ Below w2.heap.size w2 w') := fun c2 cap2 w2 hr =>
    place_yes w2 c2 cap2 m.ask h p hr hO.half hs
  have hl : p < m.cells.length := (List.getElem?_eq_some_iff.1 hx).1
  have hl2 : (p : Int) < (m.cells.length : Int) := by omega
  clear hA hO hs
  rcases hk with rfl | rfl
  · unfold M.rv
    go_enter Tryd.func36, Tryd.ntmps36
    go_wp2_with fail
    have hP := pre_two w (.slice (some ⟨c, 0, none⟩) m.cells.length cap) (.slice none 0 0) m.count m.live m.stale 0 0 0
    generalize (w.alloc (Obj.cells #[Value.slice (some ⟨c, 0, none⟩) m.cells.length cap, Value.int IntKind.i64 m.count, Value.int IntKind.i64 m.live, Value.int IntKind.i64 m.stale] 29)).alloc (Obj.cells #[Value.slice none 0 0, Value.int IntKind.i64 0, Value.int IntKind.i64 0, Value.int IntKind.i64 0] 29) = w1 at hP ⊢
    refine (HL.out w1 hP.be).mono ?_
    rintro e w2 ⟨c2, cap2, rfl, h2, b2, hc2⟩
    have hP2 := hP.later b2 hP.sz
    have HP2 := Lib.hid hP2
    have H2 := Lib.hid h2
    have hz0 := hP.sz
    have hn1 : c2 ≠ w.heap.size := by omega
    have hn2 : c2 ≠ w.heap.size + 1 := by omega
    obtain ⟨a0, a1, a2, a3, q0, q1, q2, q3, fa, fb, sz, _, _⟩ := hP2
    clear hP b2 h2
    rw [show (m.ask).rv c2 cap2 = .agg #[.slice (some ⟨c2, 0, none⟩) m.cells.length cap2, .int .i64 (m.count + 1), .int .i64 m.live, .int .i64 m.stale] from rfl]
    go_wp2_with fail
    have hP3 := HP2.out.row (.slice (some ⟨c2, 0, none⟩) m.cells.length cap2) (m.count + 1) m.live m.stale
    have h3 := H2.out.four (p := w.heap.size) (by omega) (.slice (some ⟨c2, 0, none⟩) m.cells.length cap2) (m.count + 1) m.live m.stale
    have hpl := HPL.out c2 cap2 _ h3
    obtain ⟨w3, hw3⟩ : ∃ W, W = four w2 w.heap.size (.slice (some ⟨c2, 0, none⟩) m.cells.length cap2) (m.count + 1) m.live m.stale := ⟨_, rfl⟩
    rw [← hw3] at hP3 h3 hpl
    unfold four at hw3
    rw [← hw3]
    refine hpl.mono ?_
    rintro e w4 ⟨rfl, b4⟩
    have hP4 := hP3.later b4 hP3.sz
    have H4 := Lib.hid (h3.below b4 h3.lt)
    have hz4 : w.heap.size < w4.heap.size := by have := hP4.sz; omega
    have hz5 : c2 < w4.heap.size := H4.out.lt
    have HP4 := Lib.hid hP4
    clear a0 a1 a2 a3 q0 q1 q2 q3 fa fb hw3 hP3 h3 hpl b4
    obtain ⟨a0, a1, a2, a3, q0, q1, q2, q3, fa, fb, sz, _, _⟩ := hP4
    go_wp2_with (at_builtin; refine append_cells rfl (.tmp 39) (.tmp 41) rfl rfl rfl c2 cap2 m.cells rfl H4.out.cl hz5 hln ?_; intro g cg w5 hB hge hbe; have hP5 := HP4.out.later hbe HP4.out.sz; have HP5 := Lib.hid hP5; have HRB := Lib.hid hB; have hs2 := HP4.out.sz; have hgs : w.heap.size + 2 ≤ g := (by omega); have hgl := hB.lt; have hm1 : g ≠ w.heap.size := (by omega); have hm2 : g ≠ w.heap.size + 1 := (by omega); obtain ⟨k0, k1, k2, k3, k4⟩ := hB.cl p x hx; have fg := hB.fz; obtain ⟨a0, a1, a2, a3, q0, q1, q2, q3, fa, fb, sz, _, _⟩ := hP5; clear hbe hge hB)
    have hX : RAt ((w5.setCell ⟨w.heap.size, 0, none⟩ (.slice (some ⟨g, 0, none⟩) m.cells.length cg)).setCell ⟨g, p * 5 + 1, none⟩ (.int .i64 n)) g (m.ask.put p { x with held := .word n }) := by
      have h1 := HRB.out.other (p := w.heap.size) (by omega) 0 (.slice (some ⟨g, 0, none⟩) m.cells.length cg)
      exact (h1.put (i := p) (by omega) ((h1.cl p x hx).put1 (t := .word n) (by rw [hh]; rfl))).at_ (m := m.ask.put p { x with held := .word n })
    have hRs : Res w (w.heap.size + 1) ((w5.setCell ⟨w.heap.size, 0, none⟩ (.slice (some ⟨g, 0, none⟩) m.cells.length cg)).setCell ⟨g, p * 5 + 1, none⟩ (.int .i64 n)) := (HP5.out.res.set (by omega) (Nat.le_refl _)).set (by omega) (by omega)
    obtain ⟨g1, g2, g3⟩ := give2 hRs cg hX (by omega) (L := m.cells.length) (n1 := m.count + 1) (n2 := m.live) (n3 := m.stale) (by simp [M.put, M.ask]) rfl rfl rfl
    exact bodyPost_ret (results_cell3 Tryd.results36 rfl rfl rfl g1) rfl ⟨g, cg, rfl, g2, g3, .inr (by omega)⟩
  · cases al
    · unfold M.rv
      go_enter Tryd.func36, Tryd.ntmps36
      go_wp2_with fail
      have hP := pre_two w (.slice (some ⟨c, 0, none⟩) m.cells.length cap) (.slice none 0 0) m.count m.live m.stale 0 0 0
      generalize (w.alloc (Obj.cells #[Value.slice (some ⟨c, 0, none⟩) m.cells.length cap, Value.int IntKind.i64 m.count, Value.int IntKind.i64 m.live, Value.int IntKind.i64 m.stale] 29)).alloc (Obj.cells #[Value.slice none 0 0, Value.int IntKind.i64 0, Value.int IntKind.i64 0, Value.int IntKind.i64 0] 29) = w1 at hP ⊢
      refine (HL.out w1 hP.be).mono ?_
      rintro e w2 ⟨c2, cap2, rfl, h2, b2, hc2⟩
      have hP2 := hP.later b2 hP.sz
      have HP2 := Lib.hid hP2
      have H2 := Lib.hid h2
      have hz0 := hP.sz
      have hn1 : c2 ≠ w.heap.size := by omega
      have hn2 : c2 ≠ w.heap.size + 1 := by omega
      obtain ⟨a0, a1, a2, a3, q0, q1, q2, q3, fa, fb, sz, _, _⟩ := hP2
      clear hP b2 h2
      rw [show (m.ask).rv c2 cap2 = .agg #[.slice (some ⟨c2, 0, none⟩) m.cells.length cap2, .int .i64 (m.count + 1), .int .i64 m.live, .int .i64 m.stale] from rfl]
      go_wp2_with fail
      have hP3 := HP2.out.row (.slice (some ⟨c2, 0, none⟩) m.cells.length cap2) (m.count + 1) m.live m.stale
      have h3 := H2.out.four (p := w.heap.size) (by omega) (.slice (some ⟨c2, 0, none⟩) m.cells.length cap2) (m.count + 1) m.live m.stale
      have hpl := HPL.out c2 cap2 _ h3
      obtain ⟨w3, hw3⟩ : ∃ W, W = four w2 w.heap.size (.slice (some ⟨c2, 0, none⟩) m.cells.length cap2) (m.count + 1) m.live m.stale := ⟨_, rfl⟩
      rw [← hw3] at hP3 h3 hpl
      unfold four at hw3
      rw [← hw3]
      refine hpl.mono ?_
      rintro e w4 ⟨rfl, b4⟩
      have hP4 := hP3.later b4 hP3.sz
      have H4 := Lib.hid (h3.below b4 h3.lt)
      have hz4 : w.heap.size < w4.heap.size := by have := hP4.sz; omega
      have hz5 : c2 < w4.heap.size := H4.out.lt
      have HP4 := Lib.hid hP4
      clear a0 a1 a2 a3 q0 q1 q2 q3 fa fb hw3 hP3 h3 hpl b4
      obtain ⟨a0, a1, a2, a3, q0, q1, q2, q3, fa, fb, sz, _, _⟩ := hP4
      go_wp2_with (at_builtin; refine append_cells rfl (.tmp 39) (.tmp 41) rfl rfl rfl c2 cap2 m.cells rfl H4.out.cl hz5 hln ?_; intro g cg w5 hB hge hbe; have hP5 := HP4.out.later hbe HP4.out.sz; have HP5 := Lib.hid hP5; have HRB := Lib.hid hB; have hs2 := HP4.out.sz; have hgs : w.heap.size + 2 ≤ g := (by omega); have hgl := hB.lt; have hm1 : g ≠ w.heap.size := (by omega); have hm2 : g ≠ w.heap.size + 1 := (by omega); obtain ⟨k0, k1, k2, k3, k4⟩ := hB.cl p x hx; have fg := hB.fz; obtain ⟨a0, a1, a2, a3, q0, q1, q2, q3, fa, fb, sz, _, _⟩ := hP5; clear hbe hge hB)
      have hX : RAt ((w5.setCell ⟨w.heap.size, 0, none⟩ (.slice (some ⟨g, 0, none⟩) m.cells.length cg)).setCell ⟨g, p * 5 + 1, none⟩ (.int .i64 n)) g (m.ask.put p { x with held := .word n }) := by
        have h1 := HRB.out.other (p := w.heap.size) (by omega) 0 (.slice (some ⟨g, 0, none⟩) m.cells.length cg)
        exact (h1.put (i := p) (by omega) ((h1.cl p x hx).put1 (t := .word n) (by rw [hh]; rfl))).at_ (m := m.ask.put p { x with held := .word n })
      have hRs : Res w (w.heap.size + 1) ((w5.setCell ⟨w.heap.size, 0, none⟩ (.slice (some ⟨g, 0, none⟩) m.cells.length cg)).setCell ⟨g, p * 5 + 1, none⟩ (.int .i64 n)) := (HP5.out.res.set (by omega) (Nat.le_refl _)).set (by omega) (by omega)
      obtain ⟨g1, g2, g3⟩ := give2 hRs cg hX (by omega) (L := m.cells.length) (n1 := m.count + 1) (n2 := m.live) (n3 := m.stale) (by simp [M.put, M.ask]) rfl rfl rfl
      exact bodyPost_ret (results_cell3 Tryd.results36 rfl rfl rfl g1) rfl ⟨g, cg, rfl, g2, g3, .inr (by omega)⟩
    · unfold M.rv
      go_enter Tryd.func36, Tryd.ntmps36
      go_wp2_with fail
      have hP := pre_two w (.slice (some ⟨c, 0, none⟩) m.cells.length cap) (.slice none 0 0) m.count m.live m.stale 0 0 0
      generalize (w.alloc (Obj.cells #[Value.slice (some ⟨c, 0, none⟩) m.cells.length cap, Value.int IntKind.i64 m.count, Value.int IntKind.i64 m.live, Value.int IntKind.i64 m.stale] 29)).alloc (Obj.cells #[Value.slice none 0 0, Value.int IntKind.i64 0, Value.int IntKind.i64 0, Value.int IntKind.i64 0] 29) = w1 at hP ⊢
      refine (HL.out w1 hP.be).mono ?_
      rintro e w2 ⟨c2, cap2, rfl, h2, b2, hc2⟩
      have hP2 := hP.later b2 hP.sz
      have HP2 := Lib.hid hP2
      have H2 := Lib.hid h2
      have hz0 := hP.sz
      have hn1 : c2 ≠ w.heap.size := by omega
      have hn2 : c2 ≠ w.heap.size + 1 := by omega
      obtain ⟨a0, a1, a2, a3, q0, q1, q2, q3, fa, fb, sz, _, _⟩ := hP2
      clear hP b2 h2
      rw [show (m.ask).rv c2 cap2 = .agg #[.slice (some ⟨c2, 0, none⟩) m.cells.length cap2, .int .i64 (m.count + 1), .int .i64 m.live, .int .i64 m.stale] from rfl]
      go_wp2_with fail
      have hP3 := HP2.out.row (.slice (some ⟨c2, 0, none⟩) m.cells.length cap2) (m.count + 1) m.live m.stale
      have h3 := H2.out.four (p := w.heap.size) (by omega) (.slice (some ⟨c2, 0, none⟩) m.cells.length cap2) (m.count + 1) m.live m.stale
      have hpl := HPL.out c2 cap2 _ h3
      obtain ⟨w3, hw3⟩ : ∃ W, W = four w2 w.heap.size (.slice (some ⟨c2, 0, none⟩) m.cells.length cap2) (m.count + 1) m.live m.stale := ⟨_, rfl⟩
      rw [← hw3] at hP3 h3 hpl
      unfold four at hw3
      rw [← hw3]
      refine hpl.mono ?_
      rintro e w4 ⟨rfl, b4⟩
      have hP4 := hP3.later b4 hP3.sz
      have H4 := Lib.hid (h3.below b4 h3.lt)
      have hz4 : w.heap.size < w4.heap.size := by have := hP4.sz; omega
      have hz5 : c2 < w4.heap.size := H4.out.lt
      have HP4 := Lib.hid hP4
      clear a0 a1 a2 a3 q0 q1 q2 q3 fa fb hw3 hP3 h3 hpl b4
      obtain ⟨a0, a1, a2, a3, q0, q1, q2, q3, fa, fb, sz, _, _⟩ := hP4
      go_wp2_with (at_builtin; refine append_cells rfl (.tmp 39) (.tmp 41) rfl rfl rfl c2 cap2 m.cells rfl H4.out.cl hz5 hln ?_; intro g cg w5 hB hge hbe; have hP5 := HP4.out.later hbe HP4.out.sz; have HP5 := Lib.hid hP5; have HRB := Lib.hid hB; have hs2 := HP4.out.sz; have hgs : w.heap.size + 2 ≤ g := (by omega); have hgl := hB.lt; have hm1 : g ≠ w.heap.size := (by omega); have hm2 : g ≠ w.heap.size + 1 := (by omega); obtain ⟨k0, k1, k2, k3, k4⟩ := hB.cl p x hx; have fg := hB.fz; obtain ⟨a0, a1, a2, a3, q0, q1, q2, q3, fa, fb, sz, _, _⟩ := hP5; clear hbe hge hB)
      have hX : RAt ((w5.setCell ⟨w.heap.size, 0, none⟩ (.slice (some ⟨g, 0, none⟩) m.cells.length cg)).setCell ⟨g, p * 5 + 1, none⟩ (.int .i64 n)) g (m.ask.put p { x with held := .word n }) := by
        have h1 := HRB.out.other (p := w.heap.size) (by omega) 0 (.slice (some ⟨g, 0, none⟩) m.cells.length cg)
        exact (h1.put (i := p) (by omega) ((h1.cl p x hx).put1 (t := .word n) (by rw [hh]; rfl))).at_ (m := m.ask.put p { x with held := .word n })
      have hRs : Res w (w.heap.size + 1) ((w5.setCell ⟨w.heap.size, 0, none⟩ (.slice (some ⟨g, 0, none⟩) m.cells.length cg)).setCell ⟨g, p * 5 + 1, none⟩ (.int .i64 n)) := (HP5.out.res.set (by omega) (Nat.le_refl _)).set (by omega) (by omega)
      obtain ⟨g1, g2, g3⟩ := give2 hRs cg hX (by omega) (L := m.cells.length) (n1 := m.count + 1) (n2 := m.live) (n3 := m.stale) (by simp [M.put, M.ask]) rfl rfl rfl
      exact bodyPost_ret (results_cell3 Tryd.results36 rfl rfl rfl g1) rfl ⟨g, cg, rfl, g2, g3, .inr (by omega)⟩
end Go.Proofs.YthdcilbbllldiaaDoor
