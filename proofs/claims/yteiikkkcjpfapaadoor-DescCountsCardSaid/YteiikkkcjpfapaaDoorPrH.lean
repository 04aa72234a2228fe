/- What lay, Init and Make come to. Conditions: at most 700000 asks; at most 1000000 swaps; the library's table stands. -/
import Derived.Test.YteiikkkcjpfapaaDoorPrG
namespace Go.Proofs.YteiikkkcjpfapaaDoor
open Go.RowKit Go.Op
set_option maxRecDepth 100000

/-- What lay answers. -/
structure Lr where
  h : Int
  d : Ds
  err : Int
def Ds.at_ (d : Ds) (st : Int) : Ds := { d with st := st }
def layP (d : Ds) (st : Int) : Pr Lr := .ask (.alloc (.word st)) fun a => if a.err = 0 then
    .ask (.alloc (.desc (d.e.at_ a.n))) fun x => if x.err = 0 then .ret ⟨x.n, d.e.at_ a.n, 0⟩ else .ask (.free a.n) fun _ => .ret ⟨0, d0, x.err⟩
    else .ret ⟨0, d0, a.err⟩
def RLay (G' : List (Nat × List Sw)) (a : Lr) (v : Value) : Prop := ∃ d : Ds, d.e = a.d ∧ d.In G' ∧ v = .tuple #[.int .i64 a.h, d.v, .int .i64 a.err]
theorem mk52 (x : Value) (w : World) : (Instr.makeInterface 52 x).run Tryd.prog w = .ok (.iface 52 x) w := run_makeInterface w 52 x (by kernel_rfl)
section
variable {w0 : World} {b c r pb po : Nat} {t t1 : Value} {G G1 : List (Nat × List Sw)} {w w1 w2 : World} {m m1 : M} {s s1 : Pt}
theorem Loc.later {z : Nat} (h : Loc w0 b c r pb t G w z) (hb : Below w.heap.size w w1) : Loc w0 b c r pb t G w1 z := h.same hb.size
set_option maxHeartbeats 1000000 in
theorem lay_E (h : SysE w0 b c r pb po t G w m s) (hT : TabAt w0) (hc : m.count ≤ 800000) (d : Ds) (hd : d.In G) (st : Int) :
    Calls Tryd.prog 58 #[.pointer (some ⟨pb, po, none⟩), d.v, .int .i64 st] w fun e w' => Ev w0 b c r pb po t G w RLay ((layP d st).run s m) e w' := by
  obtain ⟨wa, hwa⟩ : ∃ W, W = (w.alloc d.obj).alloc dobj := ⟨_, rfl⟩
  have hsz : (w.alloc d.obj).heap.size = w.heap.size + 1 := by simp
  have b1 := (Below.refl w.heap.size w).alloc (Nat.le_refl _) d.obj
  have b2 := (Below.refl (w.alloc d.obj).heap.size (w.alloc d.obj)).alloc (Nat.le_refl _) dobj
  have ba : Below w.heap.size w wa := by rw [hwa]; exact b1.alloc (by simp) _
  have va : DVar wa w.heap.size d := by rw [hwa]; exact (dnewd w d).later b2
  have vb : DVar wa (w.heap.size + 1) d0 := by
    have := dnew (w.alloc d.obj)
    rw [hsz] at this
    rw [hwa]; exact this
  have la : Loc w0 b c r pb t G wa w.heap.size := by rw [hwa]; exact (h.fresh d.obj).later b2
  have lb : Loc w0 b c r pb t G wa (w.heap.size + 1) := by
    have := (h.later b1).fresh dobj
    rw [hsz] at this
    rw [hwa]; exact this
  have hal := eallocword (h.later ba) hT (by omega) st
  have hct := ask_count s (.alloc (.word st)) m
  have HW := Lib.hid hwa.symm
  have HB := Lib.hid ba
  have HVA := Lib.hid va
  have HVB := Lib.hid vb
  have HLA := Lib.hid la
  have HLB := Lib.hid lb
  have HD := Lib.hid hd
  have mk := mk52
  unfold Ds.v
  unfold Ds.obj dobj at HW
  clear h hwa hsz b1 b2 ba va vb la lb hd
  go_enter Tryd.func58, Tryd.ntmps58
  go_wp2_with (first | rw [HW.out] | fail)
  refine hal.mono ?_
  rintro e w1 hE
  rcases hE.cases with ⟨t1, G1, s1, m1, ho, rfl, ha⟩ | ⟨t1, G1, s1, m1, a, v, ho, rfl, rfl, ha⟩
  · have HE : Hid (Ev w0 b c r pb po t G w RLay ((layP d st).run s m) (Halt pb po) w1) := Ev.die (by rw [layP, Pr.run_ask, ho]) (ha.back HB.out)
    clear hal hE ho ha
    unfold Halt
    go_wp2
    exact ⟨rfl, HE.out⟩
  rw [ho] at hct
  obtain ⟨va, la⟩ := ha.cells HLA.out HVA.out
  obtain ⟨vb, lb⟩ := ha.cells HLB.out HVB.out
  have ha1 := ha.back HB.out
  have hza := va.lt
  have hzb := vb.lt
  obtain ⟨c0, c1, c2, c3⟩ := va.cells
  obtain ⟨e0, e1, e2, e3⟩ := vb.cells
  have fa := va.fz
  have fb := vb.fz
  by_cases herr : a.err = 0
  · obtain ⟨wc, hwc⟩ : ∃ W, W = w1.setCell ⟨w.heap.size, 2, none⟩ (.int .i64 a.n) := ⟨_, rfl⟩
    have hbc : But w.heap.size w1 wc := by rw [hwc]; exact (But.refl _ _).set _ _
    have vac : DVar wc w.heap.size (d.at_ a.n) := by
      rw [hwc]
      refine ⟨by simp [World.setCell]; exact hza, fun i => by rw [World.frozen?_setCell]; exact fa i, fun j v hj => ?_⟩
      rw [Nat.zero_add]
      match j, hj with
      | 0, hj => simp [Ds.row, Ds.at_] at hj; subst hj; exact set_other c0 (by omega)
      | 1, hj => simp [Ds.row, Ds.at_] at hj; subst hj; exact set_other c1 (by omega)
      | 2, hj => simp [Ds.row, Ds.at_] at hj; subst hj; exact set_same c2
      | 3, hj => simp [Ds.row, Ds.at_] at hj; subst hj; exact set_other c3 (by omega)
    have vbc : DVar wc (w.heap.size + 1) d0 := vb.same hbc.size (hbc.block _ hzb (by omega))
    have ha2 := ha1.aside hbc la (Nat.le_refl _)
    have hin : (d.at_ a.n).In G1 := by
      have := HD.out.more ha.gro.1
      exact ⟨this.n, this.cap, this.few, this.row⟩
    have hal2 := eallocdesc ha2.sys hT (by simp only at hct; omega) (d.at_ a.n) hin
    have hct2 := ask_count s1 (.alloc (.desc (d.at_ a.n).e)) m1
    have hrun1 : (layP d st).run s m = (Pr.ask (.alloc (.desc (d.at_ a.n).e)) fun x => if x.err = 0 then Pr.ret (Lr.mk x.n (d.e.at_ a.n) 0) else .ask (.free a.n) fun _ => .ret ⟨0, d0, x.err⟩).run s1 m1 := by
      rw [layP, Pr.run_ask, ho]; simp only; rw [if_pos herr]; rfl
    have HW2 := Lib.hid hwc.symm
    have HVA2 := Lib.hid vac
    have HVB2 := Lib.hid vbc
    have HLA2 := Lib.hid (la.same hbc.size)
    have HLB2 := Lib.hid (lb.same hbc.size)
    have HA2 := Lib.hid ha2
    have HR := Lib.hid hrun1
    have HI := Lib.hid hin
    obtain ⟨c0', c1', c2', c3'⟩ := vac.cells
    rw [herr]
    unfold Ds.v at hal2
    simp only [Ds.at_] at hal2 c0' c1' c2' c3'
    clear hal hE ho ha herr va la vb lb ha1 hwc hbc vac vbc ha2 hin hrun1
    go_wp2_with (first | rw [HW2.out] | fail)
    refine hal2.mono ?_
    rintro e w2 hE
    rcases hE.cases with ⟨t2, G2, s2, m2, ho, rfl, ha⟩ | ⟨t2, G2, s2, m2, x, v, ho, rfl, rfl, ha⟩
    · have HE : Hid (Ev w0 b c r pb po t G w RLay ((layP d st).run s m) (Halt pb po) w2) := Ev.die (by rw [HR.out, Pr.run_ask]; exact (by rw [show s1.ask (.alloc (.desc (d.at_ a.n).e)) m1 = _ from ho])) (HA2.out.trans ha)
      clear hal2 hE ho ha
      unfold Halt
      go_wp2
      exact ⟨rfl, HE.out⟩
    have ho2 : s1.ask (.alloc (.desc (d.at_ a.n).e)) m1 = (some x, s2, m2) := ho
    rw [ho2] at hct2
    obtain ⟨va, la⟩ := ha.cells HLA2.out HVA2.out
    obtain ⟨vb, lb⟩ := ha.cells HLB2.out HVB2.out
    have ha3 := HA2.out.trans ha
    have hza := va.lt
    have hzb := vb.lt
    obtain ⟨c0, c1, c2, c3⟩ := va.cells
    obtain ⟨e0, e1, e2, e3⟩ := vb.cells
    have fa := va.fz
    have fb := vb.fz
    simp only [Ds.at_] at c0 c1 c2 c3
    by_cases herr : x.err = 0
    · have hrun2 : (layP d st).run s m = (some ⟨x.n, d.e.at_ a.n, 0⟩, s2, m2) := by
        rw [HR.out, Pr.run_ask, ho2]; simp only; rw [if_pos herr]; simp only [Pr.run]
      have HE : Hid (Ev w0 b c r pb po t G w RLay ((layP d st).run s m) (.returned (.tuple #[.int .i64 x.n, (d.at_ a.n).v, .int .i64 0])) (dput w2 (w.heap.size + 1) (d.at_ a.n)).drew ∧ (loadVar 52 ⟨w.heap.size + 1, 0, none⟩).run Tryd.prog (dput w2 (w.heap.size + 1) (d.at_ a.n)).drew = .ok (d.at_ a.n).v (dput w2 (w.heap.size + 1) (d.at_ a.n)).drew) :=
        have hb := (Below.refl (dput w2 (w.heap.size + 1) (d.at_ a.n)).heap.size (dput w2 (w.heap.size + 1) (d.at_ a.n))).drew
        ⟨Ev.ret hrun2 ⟨d.at_ a.n, rfl, HI.out.more ha.gro.1, rfl⟩ ((ha3.aside (dput_but _ _ _) lb (by omega)).later hb), ((vb.put (d.at_ a.n)).later hb).loadVar⟩
      rw [herr]
      clear hal2 hE ho ho2 ha herr hrun2 ha3 va vb la lb
      go_wp2_with fail
      go_region
      go_wp2_with fail
      exact bodyPost_ret (results_mid3 (.int .i64 x.n) (.int .i64 0) Tryd.results58 rfl rfl rfl HE.out.2) rfl HE.out.1
    · have hrun2 : (layP d st).run s m = (Pr.ask (.free a.n) fun _ => Pr.ret (Lr.mk 0 d0 x.err)).run s2 m2 := by
        rw [HR.out, Pr.run_ask, ho2]; simp only; rw [if_neg herr]
      have hfr := efree ha.sys (by simp only at hct hct2; omega) a.n
      have HR2 := Lib.hid hrun2
      have HA3 := Lib.hid ha3
      have HVB3 := Lib.hid vb
      have HLB3 := Lib.hid lb
      clear hal2 hE ho ho2 ha hrun2 ha3 va vb la lb
      go_wp2_with fail
      refine hfr.mono ?_
      rintro e w3 hE
      rcases hE.cases with ⟨t3, G3, s3, m3, ho, rfl, ha⟩ | ⟨t3, G3, s3, m3, y, v, ho, rfl, rfl, ha⟩
      · have HE : Hid (Ev w0 b c r pb po t G w RLay ((layP d st).run s m) (Halt pb po) w3) := Ev.die (by rw [HR2.out, Pr.run_ask, ho]) (HA3.out.trans ha)
        clear hfr hE ho ha
        unfold Halt
        go_wp2
        exact ⟨rfl, HE.out⟩
      obtain ⟨vb, lb⟩ := ha.cells HLB3.out HVB3.out
      have hzb := vb.lt
      obtain ⟨e0, e1, e2, e3⟩ := vb.cells
      have fb := vb.fz
      have HE : Hid (Ev w0 b c r pb po t G w RLay ((layP d st).run s m) (.returned (.tuple #[.int .i64 0, d0.v, .int .i64 x.err])) (dput w3 (w.heap.size + 1) d0) ∧ (loadVar 52 ⟨w.heap.size + 1, 0, none⟩).run Tryd.prog (dput w3 (w.heap.size + 1) d0) = .ok d0.v (dput w3 (w.heap.size + 1) d0)) :=
        ⟨Ev.ret (a := Lr.mk 0 d0 x.err) (by rw [HR2.out, Pr.run_ask, ho]; simp only [Pr.run]) ⟨d0, rfl, d0_in, rfl⟩ ((HA3.out.trans ha).aside (dput_but _ _ _) lb (by omega)), (vb.put d0).loadVar⟩
      clear hfr hE ho ha vb lb c0 c1 c2 c3
      go_wp2
      exact bodyPost_ret (results_mid3 (.int .i64 0) (.int .i64 x.err) Tryd.results58 rfl rfl rfl HE.out.2) rfl HE.out.1
  · have HE : Hid (Ev w0 b c r pb po t G w RLay ((layP d st).run s m) (.returned (.tuple #[.int .i64 0, d0.v, .int .i64 a.err])) (dput w1 (w.heap.size + 1) d0) ∧ (loadVar 52 ⟨w.heap.size + 1, 0, none⟩).run Tryd.prog (dput w1 (w.heap.size + 1) d0) = .ok d0.v (dput w1 (w.heap.size + 1) d0)) :=
      ⟨Ev.ret (a := Lr.mk 0 d0 a.err) (by rw [layP, Pr.run_ask, ho]; simp only; rw [if_neg herr]; simp only [Pr.run]) ⟨d0, rfl, d0_in, rfl⟩ (ha1.aside (dput_but _ _ _) lb (by omega)), (vb.put d0).loadVar⟩
    clear hal hE ho ha ha1 va la vb lb c0 c1 c2 c3
    go_wp2
    exact bodyPost_ret (results_mid3 (.int .i64 0) (.int .i64 a.err) Tryd.results58 rfl rfl rfl HE.out.2) rfl HE.out.1
end
end Go.Proofs.YteiikkkcjpfapaaDoor
