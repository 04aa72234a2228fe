/- The law's yard, its variable and its rows; calls that tell; the law RegFull's closure. Condition: the library's table stands. -/
import Derived.Test.YtgjkkbgdkdipgaaDoorRgO
namespace Go.Proofs.YtgjkkbgdkdipgaaDoor
open Go.RowKit Go.Op
set_option maxRecDepth 100000

theorem as4_yes (x : Bool) (w : World) : (Instr.typeAssert (.iface 4 (.bool x)) 20 4 true).run Tryd.prog w = .ok (.tuple #[.bool x, .bool true]) w := by kernel_rfl
theorem mkb4 (x : Value) (w : World) : (Instr.makeInterface 4 x).run Tryd.prog w = .ok (.iface 4 x) w := run_makeInterface w 4 x (by kernel_rfl)
theorem ptr_eq24 (a : Addr) (w : World) : (binOp .eql 24 (.pointer (some a)) (.pointer none)).run Tryd.prog w = .ok (.bool false) w := by kernel_rfl
theorem HasE.ge {w0 w : World} {b c r : Nat} {G : List (Nat × List Sw)} {m : M} (h : HasE w0 b c r G w m) : w0.heap.size ≤ b ∧ w0.heap.size ≤ c ∧ w0.heap.size ≤ r ∧ Below w0.heap.size w0 w := by
  obtain ⟨m0, h1, -⟩ := h
  exact ⟨h1.hb, h1.hc, h1.hr, h1.below⟩
theorem ButN.below {B : Nat} {Z : List Nat} {w w1 : World} (h : ButN Z w.heap.size w w1) (hz : ∀ z, z ∈ Z → B ≤ z) (hB : B ≤ w.heap.size) : Below B w w1 :=
  ⟨h.os, h.tape, h.output, h.size, fun k hk => h.block k (by omega) (fun e => by have := hz k e; omega)⟩
theorem new_e (n : Nat) : (M.new n).e = M.new n := by
  unfold M.new M.e
  simp only [List.map_replicate]
  rfl
theorem live_E {w0 w : World} {b c r : Nat} {G : List (Nat × List Sw)} {m : M} (h : HasE w0 b c r G w m) : Calls Tryd.prog 12 #[.pointer (some ⟨b, 0, none⟩)] w fun e w' => e = .returned (.int .i64 m.live) ∧ w = w' := by
  obtain ⟨m0, h1, h2, h3, rfl, h5⟩ := h
  exact live_any w b c r m0 h1.at_
theorem mcells_any (w : World) (b c r : Nat) (m : M) (h : At w b c r m) : Calls Tryd.prog 35 #[.pointer (some ⟨b, 0, none⟩)] w fun e w' => e = .returned (.int .i64 (m.cells.length : Int)) ∧ w = w' := by
  have h0 := h.head.h0
  clear h
  go_enter Tryd.func35, Tryd.ntmps35
  go_wp2
  go_ret
  exact ⟨rfl, rfl⟩
theorem mcells_E {w0 w : World} {b c r : Nat} {G : List (Nat × List Sw)} {m : M} (h : HasE w0 b c r G w m) : Calls Tryd.prog 35 #[.pointer (some ⟨b, 0, none⟩)] w fun e w' => e = .returned (.int .i64 (m.cells.length : Int)) ∧ w = w' := by
  obtain ⟨m0, h1, h2, h3, rfl, h5⟩ := h
  have hl : m0.e.cells.length = m0.cells.length := List.length_map ..
  rw [hl]
  exact mcells_any w b c r m0 h1.at_
theorem pcells_E {w0 : World} {b c r pb po : Nat} {t : Value} {G : List (Nat × List Sw)} {w : World} {m : M} {s : Pt} (h : SysE w0 b c r pb po t G w m s) : Calls Tryd.prog 67 #[.pointer (some ⟨pb, po, none⟩)] w fun e w' => e = .returned (.int .i64 (m.cells.length : Int)) ∧ w = w' := by
  obtain ⟨m0, s0, h1, h2, h3, h4, rfl, rfl⟩ := h
  have hm := mcells_any w b c r m0 h1.has.at_
  have c0 := h1.pt.cells.c0
  have hl : m0.e.cells.length = m0.cells.length := List.length_map ..
  rw [hl]
  clear h1 h2 h3 h4 hl
  go_enter Tryd.func67, Tryd.ntmps67
  go_wp2_with fail
  refine hm.mono ?_
  rintro e w1 ⟨rfl, rfl⟩
  clear hm
  go_wp2
  go_ret
  exact ⟨rfl, rfl⟩
theorem EvW.done {α : Type} {w0 : World} {b c r pb po : Nat} {t : Value} {G : List (Nat × List Sw)} {w w1 : World} {m : M} {s : Pt} {R : Value → List (Nat × List Sw) → World → α → Value → Prop} {p : Pr α} {e : Ending} (h : EvW w0 b c r pb po t G w R (p.run s m) e w1) (hs : Quiet s) :
    ∃ t' G' v, e = .returned v ∧ R t' G' w1 (p.go m).1 v ∧ Aft w0 b c r pb po t G w t' G' w1 (p.go m).2 s := by
  rw [hs.run] at h
  obtain ⟨t', G', ⟨v, h1, h2⟩, h3⟩ := h
  exact ⟨t', G', v, h1, h2, h3⟩
theorem LocM.cellD {w0 w : World} {b c r pb : Nat} {t1 : Value} {G G1 : List (Nat × List Sw)} {w1 : World} {m1 : M} {s1 : Pt} {z i : Nat} {v : Value} (hl : LocM w0 b c r G w z) (hd : Dgo w0 b c r pb [b, c, r] w t1 G G1 w1 m1 s1) (hc : w.cell? ⟨z, i, none⟩ = some v) : w1.cell? ⟨z, i, none⟩ = some v :=
  (World.cell?_of_block (w := w) (hd.but.block _ hl.lt (by have := hl.ne; simp; omega))).trans hc
theorem enter_34 (xs : Array Value) (w : World) : (callFunc 34 xs).run Tryd.prog w = .ok (.enter 34 xs) w := by kernel_rfl
theorem lenz {w0 : World} {b c r pb : Nat} {t : Value} {G : List (Nat × List Sw)} {w : World} {B : Nat} {v : Value} {l : List Int} (h : ZRow w0 b c r pb t G w B v l) : ∃ a cp, v = .slice a l.length cp := by
  obtain ⟨a, cp, e, -⟩ := h.row
  exact ⟨a, cp, e⟩
set_option maxHeartbeats 1000000 in
theorem full1_any {w0 w : World} {b c r : Nat} {G : List (Nat × List Sw)} {za zb zm : Nat} (n a d : Nat) (hn : 1 ≤ n ∧ n ≤ 20) (ha : 1 ≤ a ∧ a ≤ 12) (hd : d ≤ 11) (h : HasE w0 b c r G w (M.new n)) (hT : TabAt w0)
    (ca : w.cell? ⟨za, 0, none⟩ = some (.int .i64 (a : Int))) (cb : w.cell? ⟨zb, 0, none⟩ = some (.int .i64 (d : Int))) (cm : w.cell? ⟨zm, 0, none⟩ = some (.pointer (some ⟨b, 0, none⟩))) (la : LocM w0 b c r G w za) (lb : LocM w0 b c r G w zb) (lm : LocM w0 b c r G w zm) :
    Calls Tryd.prog 34 (#[.pointer (some ⟨w.heap.size, 0, none⟩)] ++ #[.pointer (some ⟨za, 0, none⟩), .pointer (some ⟨zb, 0, none⟩), .pointer (some ⟨zm, 0, none⟩)]) (w.alloc (portObj b)) fun e w' => ∃ u, e = .returned u ∧ u = .iface 4 (.bool true) ∧ ButN [b, c, r] w.heap.size w w' := by
  have hD := Dgo.start h (Z := [b, c, r]) ⟨by simp, by simp, by simp⟩
  have hb0 := (Below.refl w.heap.size w).alloc (Nat.le_refl _) (portObj b)
  have hi := initr_E hD.sys hT (by simp [M.new]) 7 a d
  have k0 := fun (t1 : Value) (G1 : List (Nat × List Sw)) (w1 : World) (m1 : M) (s1 : Pt) (hd : Dgo w0 b c r w.heap.size [b, c, r] w t1 G G1 w1 m1 s1) => (⟨la.cellD hd ca, lb.cellD hd cb, lm.cellD hd cm⟩ : _ ∧ _ ∧ _)
  obtain ⟨c1, c2, -⟩ := k0 _ _ _ _ _ hD
  have K0 := Lib.hid k0
  have HD := Lib.hid hD
  have hmk := mkb4
  show Calls Tryd.prog 34 #[.pointer (some ⟨w.heap.size, 0, none⟩), .pointer (some ⟨za, 0, none⟩), .pointer (some ⟨zb, 0, none⟩), .pointer (some ⟨zm, 0, none⟩)] (w.alloc (portObj b)) _
  clear h hb0 ca cb cm hD k0
  generalize hwp : w.alloc (portObj b) = wp at *
  go_enter Tryd.func34, Tryd.ntmps34
  go_wp2_with fail
  refine hi.mono ?_
  rintro e w1 hE
  obtain ⟨t1, G1, v, rfl, ⟨us, up, rfl, hus, hup⟩, ha1⟩ := hE.done (ptDo_quiet w b)
  have hD1 := HD.out.aft ha1
  obtain ⟨ua, uc, rfl⟩ := lenz hus
  obtain ⟨pa, pc, rfl⟩ := lenz hup
  have hb1 := (Below.refl w1.heap.size w1).alloc (Nat.le_refl _) (.cells #[.int .i64 (if ((initRP a d).go (M.new n)).1.2.2 = 0 then 7 else 0), .slice ua ((initRP a d).go (M.new n)).1.1.length uc, .slice pa ((initRP a d).go (M.new n)).1.2.1.length pc] 33)
  have hD2 := hD1.later hb1
  have hlv := fun W (hW : Below _ _ W) => live_E (hD2.later hW).sys.mem
  have hcl := fun W (hW : Below _ _ W) => mcells_E (hD2.later hW).sys.mem
  have HB := Lib.hid (fun W (hW : Below _ _ W) => (hD2.later hW).but)
  have hcs := fun W (hW : Below _ _ W) => K0.out _ _ _ _ _ (hD2.later hW)
  have hlen : (((initRP a d).go (M.new n)).2.cells.length : Int) = n ∧ ((((initRP a d).go (M.new n)).1.2.2 = 0 ∧ ((initRP a d).go (M.new n)).1.1.length = a ∧ ((initRP a d).go (M.new n)).1.2.1.length = d ∧ ((initRP a d).go (M.new n)).2.live = a + d ∧ a + d ≤ n) ∨ (((initRP a d).go (M.new n)).1.2.2 = 3 ∧ ((initRP a d).go (M.new n)).1.1.length = 0 ∧ ((initRP a d).go (M.new n)).2.live = 0 ∧ n < a + d)) := by
    have hcn : (M.new n).cells.length = n := by simp [M.new]
    by_cases hr : a + d ≤ n
    · obtain ⟨S, P, m', e1, e2, e3, e4, e5, e6, -⟩ := init_yes a d ⟨ha.1, by omega⟩ (by omega) (new_tidy n) (by omega) (by rw [hcn]; omega) (by rw [hcn]; simp [M.new]; omega)
      rw [e1]
      simp only
      exact ⟨by rw [e6, hcn], .inl ⟨trivial, e2, e3, by rw [e5]; simp [M.new], hr⟩⟩
    · obtain ⟨m', e1, e2, e4, -⟩ := init_no a d ⟨ha.1, by omega⟩ (by omega) (new_tidy n) (by omega) (by rw [hcn]; omega) (by rw [hcn]; simp [M.new]) (by rw [hcn]; simp [M.new]; omega)
      rw [e1]
      simp only
      exact ⟨by rw [e4, hcn], .inr ⟨trivial, rfl, by rw [e2]; simp [M.new], by omega⟩⟩
  obtain ⟨q0, q⟩ := hlen
  rw [q0] at hcl
  have hn2 : (n : Int) ≤ 20 := by omega
  have ha2 : (a : Int) ≤ 12 := by omega
  have hd2 : (d : Int) ≤ 11 := by omega
  rcases q with ⟨q1, q2, q3, q4, q5⟩ | ⟨q1, q2, q3, q4⟩
  · have i1 : (a : Int) + (d : Int) ≤ (n : Int) := by omega
    rw [q1, if_pos rfl, q2, q3] at hlv hcl hcs HB
    rw [q4] at hlv
    rw [q1, if_pos rfl, q2, q3]
    have HLV := Lib.hid hlv
    have HCL := Lib.hid hcl
    obtain ⟨d1, d2, d3⟩ := hcs _ (Below.refl _ _)
    clear hi hE hus hup ha1 hD1 hb1 hD2 c1 c2 K0 q0 q1 q2 q3 q4 q5 hlv hcl hcs
    go_wp2_with fail
    go_quiet ((go_at_call 35; exact Calls.quiet_of_same ((HCL.out _ (below_drewN _ _)).mono fun _ _ ⟨p, q⟩ => ⟨p, q.symm⟩)))
    go_wp2_with fail
    go_quiet ((go_at_call 12; exact (HLV.out _ (below_drewN _ _)).mono fun _ _ ⟨p, q⟩ => ⟨p, _, q.symm⟩))
    go_wp2
    go_ret
    exact ⟨_, rfl, rfl, by first | exact HB.out _ (below_drewN _ _) | exact HB.out _ ((below_drewN _ _).trans (below_drewN _ _))⟩
  · have i1 : ¬ (a : Int) + (d : Int) ≤ (n : Int) := by omega
    rw [q1, if_neg (by decide), q2] at hlv hcl hcs HB
    rw [q3] at hlv
    rw [q1, if_neg (by decide), q2]
    have HLV := Lib.hid hlv
    have HCL := Lib.hid hcl
    obtain ⟨d1, d2, d3⟩ := hcs _ (Below.refl _ _)
    clear hi hE hus hup ha1 hD1 hb1 hD2 c1 c2 K0 q0 q1 q2 q3 q4 hlv hcl hcs
    go_wp2_with fail
    go_quiet ((go_at_call 35; exact Calls.quiet_of_same ((HCL.out _ (below_drewN _ _)).mono fun _ _ ⟨p, q⟩ => ⟨p, q.symm⟩)))
    go_wp2_with ((go_at_call 12; refine (HLV.out _ (below_drewN _ _)).mono ?_; rintro e wl ⟨rfl, rfl⟩))
    go_ret
    exact ⟨_, rfl, rfl, HB.out _ (below_drewN _ _)⟩
end Go.Proofs.YtgjkkbgdkdipgaaDoor
