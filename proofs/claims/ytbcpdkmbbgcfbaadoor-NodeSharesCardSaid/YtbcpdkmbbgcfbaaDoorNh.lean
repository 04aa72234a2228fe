/- What Lift, Undo, taken and Fell's closure come to. Conditions: at most 400000 asks; at most 90000 links. -/
import Derived.Test.YtbcpdkmbbgcfbaaDoorNg
namespace Go.Proofs.YtbcpdkmbbgcfbaaDoor
open Go.RowKit Go.Op
set_option maxRecDepth 100000

def liftP (k : Int) : Pr Int := (takeP k).bind fun x => if x.2 = 0 then undoP k [x.1.pv] else .ret x.2
def undoNP (k : Int) : Pr Int := (loadP k).bind fun x => if x.2 = 0 then undoP k (x.1.head :: x.1.nx) else .ret x.2
theorem take_count (k : Int) (s : Pt) (m : M) : m.count ≤ ((takeP k).run s m).2.2.count ∧ ((takeP k).run s m).2.2.count ≤ m.count + 1 := by
  rw [takeP, Pr.run_ask]
  have h := ask_count s (.load k) m
  rcases ha : s.ask (.load k) m with ⟨_ | a, s', m'⟩
  all_goals
    rw [ha] at h
    simp only [Pr.run]
    exact ⟨h.1, h.2.1⟩
theorem load_count (k : Int) (s : Pt) (m : M) : m.count ≤ ((loadP k).run s m).2.2.count ∧ ((loadP k).run s m).2.2.count ≤ m.count + 1 := by
  rw [loadP, Pr.run_ask]
  have h := ask_count s (.load k) m
  rcases ha : s.ask (.load k) m with ⟨_ | a, s', m'⟩
  all_goals
    rw [ha] at h
    simp only [Pr.run]
    exact ⟨h.1, h.2.1⟩
section
variable {w0 : World} {b c r pb po : Nat} {t t1 : Value} {G G1 : List (Nat × List Value)} {w w1 w2 : World} {m m1 : M} {s s1 : Pt}
set_option maxHeartbeats 1000000 in
theorem Lift_E (h : SysE w0 b c r pb po t G w m s) (hc : m.count ≤ 400000) (k : Int) :
    Calls Tryd.prog 39 #[.pointer (some ⟨pb, po, none⟩), .int .i64 k] w fun e w' => Ev w0 b c r pb po t G w RInt ((liftP k).run s m) e w' := by
  have hl := heldA_E h (by omega) k
  have hct := take_count k s m
  clear h
  go_enter Tryd.func39, Tryd.ntmps39
  go_wp2_with fail
  refine hl.mono ?_
  rintro e w1 hE
  rcases hE.cases with ⟨t1, G1, s1, m1, ho, rfl, ha⟩ | ⟨t1, G1, s1, m1, x, v, ho, rfl, ⟨p, hi, rfl⟩, ha⟩
  · have HE : Hid (Ev w0 b c r pb po t G w RInt ((liftP k).run s m) (Halt pb po) w1) := Ev.die (Pr.bind_none ho) ha
    clear hl hE ho ha
    unfold Halt
    go_wp2
    exact ⟨rfl, HE.out⟩
  rw [ho] at hct
  simp only at hct
  have hrun1 := Pr.bind_some (f := fun x : Ag × Int => if x.2 = 0 then undoP k [x.1.pv] else .ret x.2) ho
  have hv := snew w1 (x.1.row p) 42
  have hb1 := (Below.refl w1.heap.size w1).alloc (Nat.le_refl _) (.cells (x.1.row p).toArray 42)
  by_cases herr : x.2 = 0
  · rw [if_pos herr] at hrun1
    have hsz : (w1.alloc (.cells (x.1.row p).toArray 42)).heap.size = w1.heap.size + 1 := by simp
    have c10 := hv.cell (i := 10) rfl
    have hb2 := (Below.refl (w1.alloc (.cells (x.1.row p).toArray 42)).heap.size (w1.alloc (.cells (x.1.row p).toArray 42))).alloc (Nat.le_refl _) (.cells #[.int .i64 x.1.pv] 3)
    have hl2 := (ha.sys.later hb1).fresh (.cells #[.int .i64 x.1.pv] 3)
    have hr2 := int_new (w1.alloc (.cells (x.1.row p).toArray 42)) x.1.pv 3
    rw [hsz] at hl2 hr2
    have hu := undo_E ((ha.sys.later hb1).later hb2) (by omega) k (some ⟨w1.heap.size + 1, 0, none⟩) 1 [x.1.pv] (by simp) (.inr ⟨_, 0, rfl, .inl ⟨hl2, hr2⟩⟩)
    have HU : Hid (Calls Tryd.prog 65 #[.pointer (some ⟨pb, po, none⟩), .int .i64 k, .slice (some ⟨w1.heap.size + 1, 0, none⟩) 1 1] ((w1.alloc (.cells (x.1.row p).toArray 42)).alloc (.cells #[.int .i64 x.1.pv] 3)) fun e w' => Ev w0 b c r pb po t G w RInt ((liftP k).run s m) e w') := hu.mono fun e w' hE => by
      have ha1 := (ha.later hb1).later hb2
      rcases hE.cases with ⟨t4, G4, s4, m4, ho4, rfl, ha4⟩ | ⟨t4, G4, s4, m4, y, v, ho4, rfl, rfl, ha4⟩
      · exact Ev.die (by rw [liftP, hrun1, ho4]) (ha1.trans ha4)
      · exact Ev.ret (by rw [liftP, hrun1, ho4]) rfl (ha1.trans ha4)
    generalize hW : (w1.alloc (.cells (x.1.row p).toArray 42)).alloc (.cells #[.int .i64 x.1.pv] 3) = W at HU
    have HW := Lib.hid hW
    simp only [Ag.row] at HW c10
    unfold Ag.v
    rw [herr]
    clear hl hE ho ha herr hrun1 hv hb1 hb2 hl2 hr2 hu hW hsz hi hct
    go_wp2_with (first | rw [HW.out] | fail)
    refine HU.out.mono ?_
    rintro e w3 hE
    rcases hE.cases with ⟨t1, G1, s1, m1, ho, rfl, ha⟩ | ⟨t1, G1, s1, m1, y, v, ho, rfl, rfl, ha⟩
    · have HX := Lib.hid hE
      clear HU hE ho ha
      unfold Halt
      go_wp2
      exact ⟨rfl, HX.out⟩
    · have HX := Lib.hid hE
      clear HU hE ho ha
      go_wp2
      go_ret
      exact HX.out
  · rw [if_neg herr] at hrun1
    have HX : Hid (∀ o : Obj, Ev w0 b c r pb po t G w RInt ((liftP k).run s m) (.returned (.int .i64 x.2)) (w1.alloc o)) := fun o => Ev.ret (a := x.2) (by rw [liftP, hrun1]; simp only [Pr.run]) rfl (ha.later ((Below.refl _ _).alloc (Nat.le_refl _) o))
    unfold Ag.v
    clear hl hE ho ha hrun1 hv hb1 hi hct
    go_wp2
    go_ret
    exact HX.out _
set_option maxHeartbeats 1000000 in
theorem Undo_E (h : SysE w0 b c r pb po t G w m s) (hc : m.count ≤ 400000) (k : Int) (hB : ∀ x s1 m1, (loadP k).run s m = (some x, s1, m1) → x.1.nx.length ≤ 90000) :
    Calls Tryd.prog 38 #[.pointer (some ⟨pb, po, none⟩), .int .i64 k] w fun e w' => Ev w0 b c r pb po t G w RInt ((undoNP k).run s m) e w' := by
  have hl := heldN_E h (by omega) k
  have hct := load_count k s m
  clear h
  go_enter Tryd.func38, Tryd.ntmps38
  go_wp2_with fail
  refine hl.mono ?_
  rintro e w1 hE
  rcases hE.cases with ⟨t1, G1, s1, m1, ho, rfl, ha⟩ | ⟨t1, G1, s1, m1, x, v, ho, rfl, ⟨p, hi, rfl⟩, ha⟩
  · have HE : Hid (Ev w0 b c r pb po t G w RInt ((undoNP k).run s m) (Halt pb po) w1) := Ev.die (Pr.bind_none ho) ha
    clear hl hE ho ha
    unfold Halt
    go_wp2
    exact ⟨rfl, HE.out⟩
  have hxl := hB _ _ _ ho
  rw [ho] at hct
  simp only at hct
  have hrun1 := Pr.bind_some (f := fun x : Nd × Int => if x.2 = 0 then undoP k (x.1.head :: x.1.nx) else .ret x.2) ho
  have hv := snew w1 (x.1.row p) 27
  have hb1 := (Below.refl w1.heap.size w1).alloc (Nat.le_refl _) (.cells (x.1.row p).toArray 27)
  by_cases herr : x.2 = 0
  · rw [if_pos herr] at hrun1
    have hld := hv.load sh27
    have how := own_E (ha.sys.later hb1) k x.1 p hi hxl
    have HA := Lib.hid (ha.later hb1)
    have HR := Lib.hid hrun1
    have HC : Hid (m1.count ≤ 500000) := by show m1.count ≤ 500000; omega
    simp only [Nd.row] at hld
    unfold Nd.v at how
    unfold Nd.v
    rw [herr]
    clear hl hE ho ha herr hrun1 hv hb1 hi hct hB
    go_wp2_with (first | ((with_reducible refine load_run ?_ (.tmp 5) 27 ?_ ?_ hld ?_); exact rfl; exact rfl; exact rfl) | fail)
    refine how.mono ?_
    rintro e w2 ⟨sl, rfl, hown⟩
    obtain ⟨a3, cap3, e3, c3, i3, z3⟩ := hown.row.val
    have hn3 : sl.n = x.1.nx.length + 2 := by rw [hown.n]; simp
    have hac : sl.a = a3 ∧ sl.cap = cap3 := by
      injection e3 with q1 q2 q3
      exact ⟨q1, q3⟩
    obtain ⟨rfl, rfl⟩ := hac
    have hcap := hown.cap
    obtain ⟨g, o, eg, hcell⟩ := i3.cell hown.aft.sys (i := 0) (x := k) rfl
    obtain rfl := z3 g o eg
    have i4 := i3.drop eg 1
    simp only [List.drop_succ_cons, List.drop_zero, Nat.zero_add] at i4
    have hu := undo_E hown.aft.sys HC.out k (some ⟨g, 1, none⟩) (sl.cap - 1) (x.1.head :: x.1.nx) (by simp; omega) i4
    have HU : Hid (Calls Tryd.prog 65 #[.pointer (some ⟨pb, po, none⟩), .int .i64 k, .slice (some ⟨g, 1, none⟩) (sl.n - 1) (sl.cap - 1)] w2 fun e w' => Ev w0 b c r pb po t G w RInt ((undoNP k).run s m) e w') := by
      have e1 : sl.n - 1 = (x.1.head :: x.1.nx).length := by rw [hn3]; simp
      rw [e1]
      refine hu.mono fun e w' hE => ?_
      have ha1 := HA.out.trans hown.aft
      rcases hE.cases with ⟨t4, G4, s4, m4, ho4, rfl, ha4⟩ | ⟨t4, G4, s4, m4, y, v, ho4, rfl, rfl, ha4⟩
      · exact Ev.die (by rw [undoNP, HR.out, ho4]) (ha1.trans ha4)
      · exact Ev.ret (by rw [undoNP, HR.out, ho4]) rfl (ha1.trans ha4)
    have n1 : (1 : Int) ≤ (sl.n : Int) := by omega
    have n2 : (sl.n : Int) ≤ (sl.cap : Int) := by omega
    have n3 : (1 : Int) ≤ (sl.cap : Int) := by omega
    have n4 : ¬ sl.cap = 1 := by omega
    rw [eg]
    generalize sl.n = n at *
    generalize sl.cap = cap at *
    clear how hown hu i3 i4 z3 eg e3 c3 hn3 hxl hcell
    go_wp2_with fail
    refine HU.out.mono ?_
    rintro e w3 hE
    rcases hE.cases with ⟨t1, G1, s1, m1, ho, rfl, ha⟩ | ⟨t1, G1, s1, m1, y, v, ho, rfl, rfl, ha⟩
    · have HX := Lib.hid hE
      clear HU hE ho ha
      unfold Halt
      go_wp2
      exact ⟨rfl, HX.out⟩
    · have HX := Lib.hid hE
      clear HU hE ho ha
      go_wp2
      go_ret
      exact HX.out
  · rw [if_neg herr] at hrun1
    have HX : Hid (∀ o : Obj, Ev w0 b c r pb po t G w RInt ((undoNP k).run s m) (.returned (.int .i64 x.2)) (w1.alloc o)) := fun o => Ev.ret (a := x.2) (by rw [undoNP, hrun1]; simp only [Pr.run]) rfl (ha.later ((Below.refl _ _).alloc (Nat.le_refl _) o))
    unfold Nd.v
    clear hl hE ho ha hrun1 hv hb1 hi hct
    go_wp2
    go_ret
    exact HX.out _
/-- What a prev that is taken told; 0: it tells nothing, or somebody else was ahead. -/
def takenP (k : Int) : Pr (Int × Int) := .ask (.word k) fun a => if a.err = 0 ∧ a.n ≠ 0 then .ask (.swap k a.n 0) fun x => if x.ok = true then .ret (a.n, 0) else .ret (0, x.err) else .ret (0, a.err)
set_option maxHeartbeats 1000000 in
theorem taken_E (h : SysE w0 b c r pb po t G w m s) (hc : m.count ≤ 800000) (k : Int) :
    Calls Tryd.prog 51 #[.pointer (some ⟨pb, po, none⟩), .int .i64 k] w fun e w' => Ev w0 b c r pb po t G w RInt2 ((takenP k).run s m) e w' := by
  have hl := eword h (by omega) k
  have hct := ask_count s (.word k) m
  clear h
  go_enter Tryd.func51, Tryd.ntmps51
  go_wp2_with fail
  refine hl.mono ?_
  rintro e w1 hE
  rcases hE.cases with ⟨t1, G1, s1, m1, ho, rfl, ha⟩ | ⟨t1, G1, s1, m1, a, v, ho, rfl, rfl, ha⟩
  · have HE : Hid (Ev w0 b c r pb po t G w RInt2 ((takenP k).run s m) (Halt pb po) w1) := Ev.die (by rw [takenP, Pr.run_ask, ho]) ha
    clear hl hE ho ha
    unfold Halt
    go_wp2
    exact ⟨rfl, HE.out⟩
  rw [ho] at hct
  simp only at hct
  by_cases herr : a.err = 0
  · by_cases h0 : a.n = 0
    · have HX : Hid (Ev w0 b c r pb po t G w RInt2 ((takenP k).run s m) (.returned (.tuple #[.int .i64 0, .int .i64 0])) w1) := Ev.ret (a := (0, 0)) (by
        rw [takenP, Pr.run_ask, ho]
        simp only
        rw [if_neg (fun h => h.2 h0), herr]
        simp only [Pr.run]) rfl ha
      rw [herr, h0]
      clear hl hE ho ha herr h0 hct
      go_wp2
      go_ret2
      exact HX.out
    · have hrun1 : (takenP k).run s m = (Pr.ask (.swap k a.n 0) fun x => if x.ok = true then .ret (a.n, 0) else .ret (0, x.err)).run s1 m1 := by
        rw [takenP, Pr.run_ask, ho]
        simp only
        rw [if_pos ⟨herr, h0⟩]
      have hs := eswap ha.sys (by omega) k a.n 0
      have hn0 : (a.n == 0) = false := by simpa using h0
      have HR := Lib.hid hrun1
      have HA := Lib.hid ha
      rw [herr]
      clear hl hE ho ha herr h0 hct hrun1
      go_wp2_with fail
      refine hs.mono ?_
      rintro e w2 hE
      rcases hE.cases with ⟨t2, G2, s2, m2, ho, rfl, ha⟩ | ⟨t2, G2, s2, m2, x, v, ho, rfl, rfl, ha⟩
      · have HE : Hid (Ev w0 b c r pb po t G w RInt2 ((takenP k).run s m) (Halt pb po) w2) := Ev.die (by rw [HR.out, Pr.run_ask, ho]) (HA.out.trans ha)
        clear hs hE ho ha
        unfold Halt
        go_wp2
        exact ⟨rfl, HE.out⟩
      cases hok : x.ok with
      | true =>
        have HX : Hid (Ev w0 b c r pb po t G w RInt2 ((takenP k).run s m) (.returned (.tuple #[.int .i64 a.n, .int .i64 0])) w2) := Ev.ret (a := (a.n, 0)) (by
          rw [HR.out, Pr.run_ask, ho]
          simp only
          rw [if_pos hok]
          simp only [Pr.run]) rfl (HA.out.trans ha)
        clear hs hE ho ha hok
        go_wp2
        go_ret2
        exact HX.out
      | false =>
        have HX : Hid (Ev w0 b c r pb po t G w RInt2 ((takenP k).run s m) (.returned (.tuple #[.int .i64 0, .int .i64 x.err])) w2) := Ev.ret (a := (0, x.err)) (by
          rw [HR.out, Pr.run_ask, ho]
          simp only
          rw [if_neg (by rw [hok]; decide)]
          simp only [Pr.run]) rfl (HA.out.trans ha)
        clear hs hE ho ha hok
        go_wp2
        go_ret2
        exact HX.out
  · have HX : Hid (Ev w0 b c r pb po t G w RInt2 ((takenP k).run s m) (.returned (.tuple #[.int .i64 0, .int .i64 a.err])) w1) := Ev.ret (a := (0, a.err)) (by
      rw [takenP, Pr.run_ask, ho]
      simp only
      rw [if_neg (fun h => herr h.1)]
      simp only [Pr.run]) rfl ha
    clear hl hE ho ha hct
    go_wp2
    go_ret2
    exact HX.out
/-- Fell's closure: its port stands in a variable. -/
theorem fell1_E (h : SysE w0 b c r pb po t G w m s) (hc : m.count ≤ 800000) (k : Int) (z : Nat) (hz : w.cell? ⟨z, 0, none⟩ = some (.pointer (some ⟨pb, po, none⟩))) :
    Calls Tryd.prog 50 #[.int .i64 k, .pointer (some ⟨z, 0, none⟩)] w fun e w' => Ev w0 b c r pb po t G w RInt2 ((takenP k).run s m) e w' := by
  have hl := taken_E h hc k
  clear h
  go_enter Tryd.func50, Tryd.ntmps50
  go_wp2_with fail
  refine hl.mono ?_
  rintro e w1 hE
  rcases hE.cases with ⟨t1, G1, s1, m1, ho, rfl, ha⟩ | ⟨t1, G1, s1, m1, a, v, ho, rfl, rfl, ha⟩
  · have HE := Lib.hid hE
    clear hl hE ho ha
    unfold Halt
    go_wp2
    exact ⟨rfl, HE.out⟩
  · have HE := Lib.hid hE
    clear hl hE ho ha
    go_wp2
    go_ret2
    exact HE.out
end
end Go.Proofs.YtbcpdkmbbgcfbaaDoor
