/- What last, Latest and Version come to. Conditions: at most 800000 asks. -/
import Derived.Test.YteiikkkcjpfapaaDoorPrE
namespace Go.Proofs.YteiikkkcjpfapaaDoor
open Go.RowKit Go.Op
set_option maxRecDepth 100000

theorem held_count (k : Int) (s : Pt) (m : M) : ((heldP k).run s m).2.2.count ≤ m.count + 1 ∧ m.count ≤ ((heldP k).run s m).2.2.count := by
  rw [heldP, Pr.run_ask]
  have h := ask_count s (.load k) m
  rcases ha : s.ask (.load k) m with ⟨_ | a, s', m'⟩
  all_goals
    rw [ha] at h
    simp only [Pr.run]
    exact ⟨h.2.1, h.1⟩
/-- What was published last. -/
structure La where
  h : Int
  d : Ds
  is : Bool
  err : Int
def lastP (top : Int) : Pr La := .ask (.word top) fun a => if a.err = 0 then
    (heldP a.n).bind fun x => if x.2 = 0 then .ask (.word x.1.st) fun y => if y.err = 0 then .ret ⟨a.n, x.1, (y.n == 1), 0⟩ else .ret ⟨0, d0, false, y.err⟩ else .ret ⟨0, d0, false, x.2⟩
    else .ret ⟨0, d0, false, a.err⟩
def RLa (G' : List (Nat × List Sw)) (a : La) (v : Value) : Prop := ∃ d : Ds, d.e = a.d ∧ d.In G' ∧ v = .tuple #[.int .i64 a.h, d.v, .bool a.is, .int .i64 a.err]
section
variable {w0 : World} {b c r pb po : Nat} {t t1 : Value} {G G1 : List (Nat × List Sw)} {w w1 w2 : World} {m m1 : M} {s s1 : Pt}
set_option maxHeartbeats 1000000 in
theorem last_E (h : SysE w0 b c r pb po t G w m s) (hc : m.count ≤ 800000) (k : Int) :
    Calls Tryd.prog 52 #[.pointer (some ⟨pb, po, none⟩), .int .i64 k] w fun e w' => Ev w0 b c r pb po t G w RLa ((lastP k).run s m) e w' := by
  have hb0 := (Below.refl w.heap.size w).alloc (Nat.le_refl _) dobj
  have hl := eword (h.later hb0) (by omega) k
  have HL := Lib.hid (h.fresh dobj)
  have HV := Lib.hid (dnew w)
  have HB := Lib.hid hb0
  have hct := ask_count s (.word k) m
  clear h hb0
  unfold dobj at hl
  go_enter Tryd.func52, Tryd.ntmps52
  go_wp2_with fail
  refine hl.mono ?_
  rintro e w1 hE
  rcases hE.cases with ⟨t1, G1, s1, m1, ho, rfl, ha⟩ | ⟨t1, G1, s1, m1, a, v, ho, rfl, rfl, ha⟩
  · have HE : Hid (Ev w0 b c r pb po t G w RLa ((lastP k).run s m) (Halt pb po) w1) := Ev.die (by rw [lastP, Pr.run_ask, ho]) (ha.back HB.out)
    clear hl hE ho ha
    unfold Halt
    go_wp2
    exact ⟨rfl, HE.out⟩
  rw [ho] at hct
  obtain ⟨v1, l1⟩ := ha.cells HL.out HV.out
  have ha1 := ha.back HB.out
  have hz := v1.lt
  by_cases herr : a.err = 0
  · have hh := held_E ha.sys (by simp only at hct; omega) a.n
    have hrun1 : (lastP k).run s m = ((heldP a.n).bind fun x => if x.2 = 0 then .ask (.word x.1.st) fun y => if y.err = 0 then .ret ⟨a.n, x.1, (y.n == 1), 0⟩ else .ret ⟨0, d0, false, y.err⟩ else .ret ⟨0, d0, false, x.2⟩).run s1 m1 := by
      rw [lastP, Pr.run_ask, ho]; simp only; rw [if_pos herr]
    have hct2 := held_count a.n s1 m1
    rw [herr]
    have HR := Lib.hid hrun1
    have HA := Lib.hid ha1
    have HV1 := Lib.hid v1
    have HL1 := Lib.hid l1
    clear hl hE ho ha herr hrun1 ha1 v1 l1
    go_wp2_with fail
    refine hh.mono ?_
    rintro e w2 hE
    rcases hE.cases with ⟨t2, G2, s2, m2, ho, rfl, ha⟩ | ⟨t2, G2, s2, m2, x, v, ho, rfl, ⟨d, hd, hi, rfl⟩, ha⟩
    · have HE : Hid (Ev w0 b c r pb po t G w RLa ((lastP k).run s m) (Halt pb po) w2) := Ev.die (by rw [HR.out, Pr.bind_none ho]) (HA.out.trans ha)
      clear hh hE ho ha
      unfold Halt
      go_wp2
      exact ⟨rfl, HE.out⟩
    rw [ho] at hct2
    obtain ⟨v2, l2⟩ := ha.cells HL1.out HV1.out
    have ha2 := HA.out.trans ha
    have hz2 := v2.lt
    have hrun2 := Pr.bind_some (f := fun x : Ds × Int => if x.2 = 0 then Pr.ask (.word x.1.st) fun y => if y.err = 0 then .ret (La.mk a.n x.1 (y.n == 1) 0) else .ret ⟨0, d0, false, y.err⟩ else .ret ⟨0, d0, false, x.2⟩) ho
    rw [← HR.out] at hrun2
    by_cases herr : x.2 = 0
    · rw [if_pos herr] at hrun2
      have hb3 := (Below.refl w2.heap.size w2).alloc (Nat.le_refl _) d.obj
      have hw := eword (ha.sys.later hb3) (by simp only at hct hct2; omega) d.st
      have est : d.st = x.1.st := by rw [← hd]; rfl
      rw [← est] at hrun2
      have HR2 := Lib.hid hrun2
      have HA2 := Lib.hid (ha2.later hb3)
      have HV2 := Lib.hid (v2.later hb3)
      have HL2 := Lib.hid (l2.same hb3.size)
      have HN := Lib.hid (dnewd w2 d)
      have HLN := Lib.hid (ha.sys.fresh d.obj)
      have HD := Lib.hid hd
      have HI := Lib.hid hi
      rw [herr]
      unfold Ds.v
      unfold Ds.obj at hw
      clear hh hE ho ha herr hrun2 ha2 v2 l2 hb3 hi hd est
      go_wp2_with fail
      refine hw.mono ?_
      rintro e w3 hE
      rcases hE.cases with ⟨t3, G3, s3, m3, ho, rfl, ha⟩ | ⟨t3, G3, s3, m3, y, v, ho, rfl, rfl, ha⟩
      · have HE : Hid (Ev w0 b c r pb po t G w RLa ((lastP k).run s m) (Halt pb po) w3) := Ev.die (by rw [HR2.out, Pr.run_ask, ho]) (HA2.out.trans ha)
        clear hw hE ho ha
        unfold Halt
        go_wp2
        exact ⟨rfl, HE.out⟩
      obtain ⟨v3, l3⟩ := ha.cells HL2.out HV2.out
      obtain ⟨n3, _⟩ := ha.cells HLN.out HN.out
      have ha3 := HA2.out.trans ha
      have hz3 := v3.lt
      have fz := v3.fz
      obtain ⟨c0, c1, c2, c3⟩ := v3.cells
      obtain ⟨e0, e1, e2, e3⟩ := n3.cells
      have hrun3 : (lastP k).run s m = (some (if y.err = 0 then La.mk a.n x.1 (y.n == 1) 0 else ⟨0, d0, false, y.err⟩), s3, m3) := by
        rw [HR2.out, Pr.run_ask, ho]
        simp only
        split <;> simp only [Pr.run]
      by_cases herr : y.err = 0
      · rw [if_pos herr] at hrun3
        have HE : Hid (Ev w0 b c r pb po t G w RLa ((lastP k).run s m) (.returned (.tuple #[.int .i64 a.n, d.v, .bool (y.n == 1), .int .i64 0])) (dput w3 w.heap.size d).drew ∧ (loadVar 52 ⟨w.heap.size, 0, none⟩).run Tryd.prog (dput w3 w.heap.size d).drew = .ok d.v (dput w3 w.heap.size d).drew) :=
          have hb := (Below.refl (dput w3 w.heap.size d).heap.size (dput w3 w.heap.size d)).drew
          ⟨Ev.ret hrun3 ⟨d, HD.out, HI.out.more fun z hz => ha.gro.1 z hz, rfl⟩ ((ha3.aside (dput_but _ _ _) l3 (Nat.le_refl _)).later hb), ((v3.put d).later hb).loadVar⟩
        rw [herr]
        clear hw hE ho ha herr hrun3 ha3 v3 l3 n3
        go_wp2
        go_region
        go_wp2_with fail
        exact bodyPost_ret (results_mid4 (.int .i64 a.n) (.bool (y.n == 1)) (.int .i64 0) Tryd.results52 rfl rfl rfl rfl HE.out.2) rfl HE.out.1
      · rw [if_neg herr] at hrun3
        have HE : Hid (Ev w0 b c r pb po t G w RLa ((lastP k).run s m) (.returned (.tuple #[.int .i64 0, d0.v, .bool false, .int .i64 y.err])) (dput w3 w.heap.size d0) ∧ (loadVar 52 ⟨w.heap.size, 0, none⟩).run Tryd.prog (dput w3 w.heap.size d0) = .ok d0.v (dput w3 w.heap.size d0)) :=
          ⟨Ev.ret hrun3 ⟨d0, rfl, d0_in, rfl⟩ (ha3.aside (dput_but _ _ _) l3 (Nat.le_refl _)), (v3.put d0).loadVar⟩
        clear hw hE ho ha hrun3 ha3 v3 l3 n3
        go_wp2
        exact bodyPost_ret (results_mid4 (.int .i64 0) (.bool false) (.int .i64 y.err) Tryd.results52 rfl rfl rfl rfl HE.out.2) rfl HE.out.1
    · rw [if_neg herr] at hrun2
      have fz := v2.fz
      obtain ⟨c0, c1, c2, c3⟩ := v2.cells
      have HE : Hid (∀ o : Obj, Ev w0 b c r pb po t G w RLa ((lastP k).run s m) (.returned (.tuple #[.int .i64 0, d0.v, .bool false, .int .i64 x.2])) ((dput w2 w.heap.size d0).alloc o) ∧ (loadVar 52 ⟨w.heap.size, 0, none⟩).run Tryd.prog ((dput w2 w.heap.size d0).alloc o) = .ok d0.v ((dput w2 w.heap.size d0).alloc o)) := fun o =>
        have hb := (Below.refl (dput w2 w.heap.size d0).heap.size (dput w2 w.heap.size d0)).alloc (Nat.le_refl _) o
        ⟨Ev.ret (a := La.mk 0 d0 false x.2) (by rw [hrun2]; simp only [Pr.run]) ⟨d0, rfl, d0_in, rfl⟩ ((ha2.aside (dput_but _ _ _) l2 (Nat.le_refl _)).later hb), ((v2.put d0).later hb).loadVar⟩
      unfold Ds.v
      clear hh hE ho ha hrun2 ha2 v2 l2 hi hd
      go_wp2
      exact bodyPost_ret (results_mid4 (.int .i64 0) (.bool false) (.int .i64 x.2) Tryd.results52 rfl rfl rfl rfl (HE.out _).2) rfl (HE.out _).1
  · have fz := v1.fz
    obtain ⟨c0, c1, c2, c3⟩ := v1.cells
    have HE : Hid (Ev w0 b c r pb po t G w RLa ((lastP k).run s m) (.returned (.tuple #[.int .i64 0, d0.v, .bool false, .int .i64 a.err])) (dput w1 w.heap.size d0) ∧ (loadVar 52 ⟨w.heap.size, 0, none⟩).run Tryd.prog (dput w1 w.heap.size d0) = .ok d0.v (dput w1 w.heap.size d0)) :=
      ⟨Ev.ret (a := La.mk 0 d0 false a.err) (by rw [lastP, Pr.run_ask, ho]; simp only; rw [if_neg herr]; simp only [Pr.run]) ⟨d0, rfl, d0_in, rfl⟩ (ha1.aside (dput_but _ _ _) l1 (Nat.le_refl _)), (v1.put d0).loadVar⟩
    clear hl hE ho ha ha1 v1 l1
    go_wp2
    exact bodyPost_ret (results_mid4 (.int .i64 0) (.bool false) (.int .i64 a.err) Tryd.results52 rfl rfl rfl rfl HE.out.2) rfl HE.out.1
end
end Go.Proofs.YteiikkkcjpfapaaDoor
