/- What last, Latest and Version come to. Conditions: at most 800000 asks. -/
import Derived.Test.YtgjkkbgdkdipgaaDoorPrE
import Derived.Handy
namespace Go.Proofs.YtgjkkbgdkdipgaaDoor
open Go.RowKit Go.Op
set_option maxRecDepth 100000

theorem held_count (k : Int) (s : Pt) (m : M) : ((heldP k).run s m).2.2.count ≤ m.count + 1 ∧ m.count ≤ ((heldP k).run s m).2.2.count := by
  rw [heldP, Pr.run_ask]
  have h := ask_count s (.load k) m
  rcases ha : s.ask (.load k) m with ⟨_ | a, s', m'⟩
  all_goals
    rw [ha] at h
    simp only [Pr.run]
    exact ⟨h.2.1, h.1⟩
/-- What was published last. -/
structure La where
  h : Int
  d : Ds
  is : Bool
  err : Int
def lastP (top : Int) : Pr La := .ask (.word top) fun a => if a.err = 0 then
    (heldP a.n).bind fun x => if x.2 = 0 then .ask (.word x.1.st) fun y => if y.err = 0 then .ret ⟨a.n, x.1, (y.n == 1), 0⟩ else .ret ⟨0, d0, false, y.err⟩ else .ret ⟨0, d0, false, x.2⟩
    else .ret ⟨0, d0, false, a.err⟩
def RLa (G' : List (Nat × List Sw)) (a : La) (v : Value) : Prop := ∃ d : Ds, d.e = a.d ∧ d.In G' ∧ v = .tuple #[.int .i64 a.h, d.v, .bool a.is, .int .i64 a.err]
section
variable {w0 : World} {b c r pb po : Nat} {t t1 : Value} {G G1 : List (Nat × List Sw)} {w w1 w2 : World} {m m1 : M} {s s1 : Pt}
set_option maxHeartbeats 1000000 in
theorem last_E (h : SysE w0 b c r pb po t G w m s) (hc : m.count ≤ 800000) (k : Int) :
    Calls Tryd.prog 79 #[.pointer (some ⟨pb, po, none⟩), .int .i64 k] w fun e w' => Ev w0 b c r pb po t G w RLa ((lastP k).run s m) e w' := by
  have hb0 := (Below.refl w.heap.size w).alloc (Nat.le_refl _) dobj
  have hl := eword (h.later hb0) (by omega) k
  have HL := Lib.hid (h.fresh dobj)
  have HV := Lib.hid (dnew w)
  have HB := Lib.hid hb0
  have hct := ask_count s (.word k) m
  clear h hb0
  unfold dobj at hl
  go_enter Tryd.func79, Tryd.ntmps79
  go_wp2_with fail
  refine hl.mono ?_
  rintro e w1 hE
  rcases hE.cases with ⟨t1, G1, s1, m1, ho, rfl, ha⟩ | ⟨t1, G1, s1, m1, a, v, ho, rfl, rfl, ha⟩
  · have HE : Hid (Ev w0 b c r pb po t G w RLa ((lastP k).run s m) (Halt pb po) w1) := Ev.die (by rw [lastP, Pr.run_ask, ho]) (ha.back HB.out)
    clear hl hE ho ha
    unfold Halt
    go_wp2
    exact ⟨rfl, HE.out⟩
  rw [ho] at hct
  obtain ⟨v1, l1⟩ := ha.cells HL.out HV.out
  have ha1 := ha.back HB.out
  have hz := v1.lt
  by_cases herr : a.err = 0
  · have hh := held_E ha.sys (by simp only at hct; omega) a.n
    have hrun1 : (lastP k).run s m = ((heldP a.n).bind fun x => if x.2 = 0 then .ask (.word x.1.st) fun y => if y.err = 0 then .ret ⟨a.n, x.1, (y.n == 1), 0⟩ else .ret ⟨0, d0, false, y.err⟩ else .ret ⟨0, d0, false, x.2⟩).run s1 m1 := by
      rw [lastP, Pr.run_ask, ho]; simp only; rw [if_pos herr]
    have hct2 := held_count a.n s1 m1
    rw [herr]
    have HR := Lib.hid hrun1
    have HA := Lib.hid ha1
    have HV1 := Lib.hid v1
    have HL1 := Lib.hid l1
    clear hl hE ho ha herr hrun1 ha1 v1 l1
    go_wp2_with fail
    refine hh.mono ?_
    rintro e w2 hE
    rcases hE.cases with ⟨t2, G2, s2, m2, ho, rfl, ha⟩ | ⟨t2, G2, s2, m2, x, v, ho, rfl, ⟨d, hd, hi, rfl⟩, ha⟩
    · have HE : Hid (Ev w0 b c r pb po t G w RLa ((lastP k).run s m) (Halt pb po) w2) := Ev.die (by rw [HR.out, Pr.bind_none ho]) (HA.out.trans ha)
      clear hh hE ho ha
      unfold Halt
      go_wp2
      exact ⟨rfl, HE.out⟩
    rw [ho] at hct2
    obtain ⟨v2, l2⟩ := ha.cells HL1.out HV1.out
    have ha2 := HA.out.trans ha
    have hz2 := v2.lt
    have hrun2 := Pr.bind_some (f := fun x : Ds × Int => if x.2 = 0 then Pr.ask (.word x.1.st) fun y => if y.err = 0 then .ret (La.mk a.n x.1 (y.n == 1) 0) else .ret ⟨0, d0, false, y.err⟩ else .ret ⟨0, d0, false, x.2⟩) ho
    rw [← HR.out] at hrun2
    by_cases herr : x.2 = 0
    · rw [if_pos herr] at hrun2
      have hb3 := (Below.refl w2.heap.size w2).alloc (Nat.le_refl _) d.obj
      have hw := eword (ha.sys.later hb3) (by simp only at hct hct2; omega) d.st
      have est : d.st = x.1.st := by rw [← hd]; rfl
      rw [← est] at hrun2
      have HR2 := Lib.hid hrun2
      have HA2 := Lib.hid (ha2.later hb3)
      have HV2 := Lib.hid (v2.later hb3)
      have HL2 := Lib.hid (l2.same hb3.size)
      have HN := Lib.hid (dnewd w2 d)
      have HLN := Lib.hid (ha.sys.fresh d.obj)
      have HD := Lib.hid hd
      have HI := Lib.hid hi
      rw [herr]
      unfold Ds.v
      unfold Ds.obj at hw
      clear hh hE ho ha herr hrun2 ha2 v2 l2 hb3 hi hd est
      go_wp2_with fail
      refine hw.mono ?_
      rintro e w3 hE
      rcases hE.cases with ⟨t3, G3, s3, m3, ho, rfl, ha⟩ | ⟨t3, G3, s3, m3, y, v, ho, rfl, rfl, ha⟩
      · have HE : Hid (Ev w0 b c r pb po t G w RLa ((lastP k).run s m) (Halt pb po) w3) := Ev.die (by rw [HR2.out, Pr.run_ask, ho]) (HA2.out.trans ha)
        clear hw hE ho ha
        unfold Halt
        go_wp2
        exact ⟨rfl, HE.out⟩
      obtain ⟨v3, l3⟩ := ha.cells HL2.out HV2.out
      obtain ⟨n3, _⟩ := ha.cells HLN.out HN.out
      have ha3 := HA2.out.trans ha
      have hz3 := v3.lt
      have fz := v3.fz
      obtain ⟨c0, c1, c2, c3⟩ := v3.cells
      obtain ⟨e0, e1, e2, e3⟩ := n3.cells
      have hrun3 : (lastP k).run s m = (some (if y.err = 0 then La.mk a.n x.1 (y.n == 1) 0 else ⟨0, d0, false, y.err⟩), s3, m3) := by
        rw [HR2.out, Pr.run_ask, ho]
        simp only
        split <;> simp only [Pr.run]
      by_cases herr : y.err = 0
      · rw [if_pos herr] at hrun3
        have HE : Hid (Ev w0 b c r pb po t G w RLa ((lastP k).run s m) (.returned (.tuple #[.int .i64 a.n, d.v, .bool (y.n == 1), .int .i64 0])) (dput w3 w.heap.size d).drew ∧ (loadVar 82 ⟨w.heap.size, 0, none⟩).run Tryd.prog (dput w3 w.heap.size d).drew = .ok d.v (dput w3 w.heap.size d).drew) :=
          have hb := (Below.refl (dput w3 w.heap.size d).heap.size (dput w3 w.heap.size d)).drew
          ⟨Ev.ret hrun3 ⟨d, HD.out, HI.out.more fun z hz => ha.gro.1 z hz, rfl⟩ ((ha3.aside (dput_but _ _ _) l3 (Nat.le_refl _)).later hb), ((v3.put d).later hb).loadVar⟩
        rw [herr]
        clear hw hE ho ha herr hrun3 ha3 v3 l3 n3
        go_wp2
        go_region
        go_wp2_with fail
        exact bodyPost_ret (results_mid4 (.int .i64 a.n) (.bool (y.n == 1)) (.int .i64 0) Tryd.results79 rfl rfl rfl rfl HE.out.2) rfl HE.out.1
      · rw [if_neg herr] at hrun3
        have HE : Hid (Ev w0 b c r pb po t G w RLa ((lastP k).run s m) (.returned (.tuple #[.int .i64 0, d0.v, .bool false, .int .i64 y.err])) (dput w3 w.heap.size d0) ∧ (loadVar 82 ⟨w.heap.size, 0, none⟩).run Tryd.prog (dput w3 w.heap.size d0) = .ok d0.v (dput w3 w.heap.size d0)) :=
          ⟨Ev.ret hrun3 ⟨d0, rfl, d0_in, rfl⟩ (ha3.aside (dput_but _ _ _) l3 (Nat.le_refl _)), (v3.put d0).loadVar⟩
        clear hw hE ho ha hrun3 ha3 v3 l3 n3
        go_wp2
        exact bodyPost_ret (results_mid4 (.int .i64 0) (.bool false) (.int .i64 y.err) Tryd.results79 rfl rfl rfl rfl HE.out.2) rfl HE.out.1
    · rw [if_neg herr] at hrun2
      have fz := v2.fz
      obtain ⟨c0, c1, c2, c3⟩ := v2.cells
      have HE : Hid (∀ o : Obj, Ev w0 b c r pb po t G w RLa ((lastP k).run s m) (.returned (.tuple #[.int .i64 0, d0.v, .bool false, .int .i64 x.2])) ((dput w2 w.heap.size d0).alloc o) ∧ (loadVar 82 ⟨w.heap.size, 0, none⟩).run Tryd.prog ((dput w2 w.heap.size d0).alloc o) = .ok d0.v ((dput w2 w.heap.size d0).alloc o)) := fun o =>
        have hb := (Below.refl (dput w2 w.heap.size d0).heap.size (dput w2 w.heap.size d0)).alloc (Nat.le_refl _) o
        ⟨Ev.ret (a := La.mk 0 d0 false x.2) (by rw [hrun2]; simp only [Pr.run]) ⟨d0, rfl, d0_in, rfl⟩ ((ha2.aside (dput_but _ _ _) l2 (Nat.le_refl _)).later hb), ((v2.put d0).later hb).loadVar⟩
      unfold Ds.v
      clear hh hE ho ha hrun2 ha2 v2 l2 hi hd
      go_wp2
      exact bodyPost_ret (results_mid4 (.int .i64 0) (.bool false) (.int .i64 x.2) Tryd.results79 rfl rfl rfl rfl (HE.out _).2) rfl (HE.out _).1
  · have fz := v1.fz
    obtain ⟨c0, c1, c2, c3⟩ := v1.cells
    have HE : Hid (Ev w0 b c r pb po t G w RLa ((lastP k).run s m) (.returned (.tuple #[.int .i64 0, d0.v, .bool false, .int .i64 a.err])) (dput w1 w.heap.size d0) ∧ (loadVar 82 ⟨w.heap.size, 0, none⟩).run Tryd.prog (dput w1 w.heap.size d0) = .ok d0.v (dput w1 w.heap.size d0)) :=
      ⟨Ev.ret (a := La.mk 0 d0 false a.err) (by rw [lastP, Pr.run_ask, ho]; simp only; rw [if_neg herr]; simp only [Pr.run]) ⟨d0, rfl, d0_in, rfl⟩ (ha1.aside (dput_but _ _ _) l1 (Nat.le_refl _)), (v1.put d0).loadVar⟩
    clear hl hE ho ha ha1 v1 l1
    go_wp2
    exact bodyPost_ret (results_mid4 (.int .i64 0) (.bool false) (.int .i64 a.err) Tryd.results79 rfl rfl rfl rfl HE.out.2) rfl HE.out.1
end
end Go.Proofs.YtgjkkbgdkdipgaaDoor
/- What Latest, Version, Publish and Help come to. Conditions: at most 700000 asks; at most 90000 swaps. -/
namespace Go.Proofs.YtgjkkbgdkdipgaaDoor
open Go.RowKit Go.Op
set_option maxRecDepth 100000

section
variable {w0 : World} {b c r pb po : Nat} {t t1 : Value} {G G1 : List (Nat × List Sw)} {w w1 w2 : World} {m m1 : M} {s s1 : Pt}
set_option maxHeartbeats 1000000 in
theorem latest_E (h : SysE w0 b c r pb po t G w m s) (hc : m.count ≤ 800000) (k : Int) :
    Calls Tryd.prog 44 #[.pointer (some ⟨pb, po, none⟩), .int .i64 k] w fun e w' => Ev w0 b c r pb po t G w RLa ((lastP k).run s m) e w' := by
  have hb0 := (Below.refl w.heap.size w).alloc (Nat.le_refl _) dobj
  have hl := last_E (h.later hb0) hc k
  have HL := Lib.hid (h.fresh dobj)
  have HV := Lib.hid (dnew w)
  have HB := Lib.hid hb0
  clear h hb0
  unfold dobj at hl
  go_enter Tryd.func44, Tryd.ntmps44
  go_wp2_with fail
  refine hl.mono ?_
  rintro e w1 hE
  rcases hE.cases with ⟨t1, G1, s1, m1, ho, rfl, ha⟩ | ⟨t1, G1, s1, m1, a, v, ho, rfl, ⟨d, hd, hi, rfl⟩, ha⟩
  · have HE : Hid (Ev w0 b c r pb po t G w RLa ((lastP k).run s m) (Halt pb po) w1) := Ev.die ho (ha.back HB.out)
    clear hl hE ho ha
    unfold Halt
    go_wp2
    exact ⟨rfl, HE.out⟩
  · obtain ⟨v1, l1⟩ := ha.cells HL.out HV.out
    have ha1 := ha.back HB.out
    have hz := v1.lt
    have hcl := eclone (ha1.later ((Below.refl w1.heap.size w1).alloc (Nat.le_refl _) d.obj)) d hi
    have HN := Lib.hid (dnewd w1 d)
    have HL1 := Lib.hid (l1.same (((Below.refl w1.heap.size w1).alloc (Nat.le_refl _) d.obj)).size)
    have HV1 := Lib.hid (v1.later ((Below.refl w1.heap.size w1).alloc (Nat.le_refl _) d.obj))
    have HF := Lib.hid (ha1.sys.fresh d.obj)
    have HA := Lib.hid ha1
    have HO := Lib.hid ho
    have HD := Lib.hid hd
    unfold Ds.v
    unfold Ds.obj at hcl
    clear hl hE ho ha v1 l1 ha1 hi hd
    go_wp2_with fail
    refine hcl.mono ?_
    rintro e w2 ⟨⟨ad, cap, G2, rfl, hi2, ha2, hs2⟩, hb2⟩
    have n2 := HN.out.later hb2
    have v2 := HV1.out.later hb2
    obtain ⟨c0, c1, c2, c3⟩ := v2.cells
    obtain ⟨e0, e1, e2, e3⟩ := n2.cells
    have fz := v2.fz
    have fn := n2.fz
    have l2 := HF.out.grow hb2.size hs2
    have l3 := HL1.out.grow hb2.size hs2
    have b3 : But w1.heap.size w2 (w2.setCell ⟨w1.heap.size, 3, none⟩ (.slice ad d.n cap)) := (But.refl _ _).set _ _
    have v3 := v2.same b3.size (b3.block _ v2.lt (by omega))
    have HE : Hid (Ev w0 b c r pb po t G w RLa ((lastP k).run s m) (.returned (.tuple #[.int .i64 a.h, (Ds.mk d.ver d.bf d.st d.sw ad d.n cap).v, .bool a.is, .int .i64 a.err])) (dput (w2.setCell ⟨w1.heap.size, 3, none⟩ (.slice ad d.n cap)) w.heap.size (Ds.mk d.ver d.bf d.st d.sw ad d.n cap)).drew) :=
      Ev.ret HO.out ⟨Ds.mk d.ver d.bf d.st d.sw ad d.n cap, HD.out, hi2, rfl⟩ (((ha2.aside b3 l2 HA.out.but.size).aside (dput_but _ _ _) (l3.same b3.size) (Nat.le_refl _)).later ((Below.refl _ _).drew))
    have HG := Lib.hid ((v3.put (Ds.mk d.ver d.bf d.st d.sw ad d.n cap)).later ((Below.refl _ _).drew)).loadVar
    clear hcl v2 n2 ha2 l2 l3 b3 v3 hs2 hi2 hb2
    go_wp2_with fail
    go_region
    go_wp2_with fail
    exact bodyPost_ret (results_mid4 (.int .i64 a.h) (.bool a.is) (.int .i64 a.err) Tryd.results44 rfl rfl rfl rfl HG.out) rfl HE.out
def versionP (k : Int) : Pr (Int × Int) := (lastP k).bind fun x => .ret (if x.is = true then x.d.ver else x.d.bf, x.err)
def RInt2 (_ : List (Nat × List Sw)) (a : Int × Int) (v : Value) : Prop := v = .tuple #[.int .i64 a.1, .int .i64 a.2]
theorem version_E (h : SysE w0 b c r pb po t G w m s) (hc : m.count ≤ 800000) (k : Int) :
    Calls Tryd.prog 60 #[.pointer (some ⟨pb, po, none⟩), .int .i64 k] w fun e w' => Ev w0 b c r pb po t G w RInt2 ((versionP k).run s m) e w' := by
  have hl := last_E h hc k
  clear h
  go_enter Tryd.func60, Tryd.ntmps60
  go_wp2_with fail
  refine hl.mono ?_
  rintro e w1 hE
  rcases hE.cases with ⟨t1, G1, s1, m1, ho, rfl, ha⟩ | ⟨t1, G1, s1, m1, a, v, ho, rfl, ⟨d, hd, hi, rfl⟩, ha⟩
  · have HE : Hid (Ev w0 b c r pb po t G w RInt2 ((versionP k).run s m) (Halt pb po) w1) := Ev.die (Pr.bind_none ho) ha
    clear hl hE ho ha
    unfold Halt
    go_wp2
    exact ⟨rfl, HE.out⟩
  · have hr1 : (versionP k).run s m = (some (if a.is = true then a.d.ver else a.d.bf, a.err), s1, m1) := by
      rw [versionP, Pr.bind_some ho]; simp only [Pr.run]
    have e1 : d.ver = a.d.ver := by rw [← hd]; rfl
    have e2 : d.bf = a.d.bf := by rw [← hd]; rfl
    rw [← e1, ← e2] at hr1
    have HE : Hid (∀ o : Obj, Ev w0 b c r pb po t G w RInt2 ((versionP k).run s m) (.returned (.tuple #[.int .i64 (if a.is = true then d.ver else d.bf), .int .i64 a.err])) (w1.alloc o)) := fun o =>
      Ev.ret hr1 rfl (ha.later ((Below.refl _ _).alloc (Nat.le_refl _) o))
    unfold Ds.v
    clear hl hE ho ha hr1 e1 e2 hd hi
    cases his : a.is with
    | true =>
      rw [his] at HE
      clear his
      go_wp2
      go_ret2
      exact HE.out _
    | false =>
      rw [his] at HE
      clear his
      go_wp2
      go_ret2
      exact HE.out _
theorem publish_E (h : SysE w0 b c r pb po t G w m s) (hc : m.count ≤ 900000) (k o n : Int) :
    Calls Tryd.prog 46 #[.pointer (some ⟨pb, po, none⟩), .int .i64 k, .int .i64 o, .int .i64 n] w fun e w' => Ev w0 b c r pb po t G w (fun _ a v => v = .tuple #[.bool a.ok, .int .i64 a.err]) (s.ask (.swap k o n) m) e w' := by
  have hl := eswap h hc k o n
  clear h
  go_enter Tryd.func46, Tryd.ntmps46
  go_wp2_with fail
  refine hl.mono ?_
  rintro e w1 hE
  rcases hE.cases with ⟨t1, G1, s1, m1, ho, rfl, ha⟩ | ⟨t1, G1, s1, m1, a, v, ho, rfl, rfl, ha⟩
  · have HE := Lib.hid hE
    clear hl hE ho ha
    unfold Halt
    go_wp2
    exact ⟨rfl, HE.out⟩
  · have HE := Lib.hid hE
    clear hl hE ho ha
    go_wp2
    go_ret2
    exact HE.out
def helpL (st : Int) : List Sw → Pr Int
  | [] => .ask (.swap st 0 1) fun a => .ret a.err
  | x :: l => .ask (.swap x.cell x.old x.new) fun a => if a.err = 0 then helpL st l else .ret a.err
theorem helpL_cons (st : Int) (x : Sw) (l : List Sw) : helpL st (x :: l) = .ask (.swap x.cell x.old x.new) fun a => if a.err = 0 then helpL st l else .ret a.err := rfl
theorem helpL_nil (st : Int) : helpL st [] = .ask (.swap st 0 1) fun a => .ret a.err := rfl
def helpP (d : Ds) : Pr Int := helpL d.st d.sw
def RInt (_ : List (Nat × List Sw)) (a : Int) (v : Value) : Prop := v = .int .i64 a
theorem load_90 {w : World} {g o : Nat} {x : Sw} (h : SwAt w g o x) : (Instr.loadAt 119 (.pointer (some ⟨g, o, none⟩))).run Tryd.prog w = .ok (.agg #[.int .i64 x.cell, .int .i64 x.old, .int .i64 x.new]) w :=
  run_loadAt_mid w g o 119 x.row _ (fun j v hj => by
    match j, hj with
    | 0, hj => simp [Sw.row] at hj; subst hj; exact h.1
    | 1, hj => simp [Sw.row] at hj; subst hj; exact h.2.1
    | 2, hj => simp [Sw.row] at hj; subst hj; exact h.2.2) Tryd.underlying119 rfl (by kernel_rfl)
/-- At the loop's head. -/
def HHead (w0 : World) (b c r pb po : Nat) (t : Value) (G : List (Nat × List Sw)) (w : World) (d : Ds) (s : Pt) (m : M) (i : Nat) (wr : World) : Prop :=
  ∃ t1 G1 m1 s1, Aft w0 b c r pb po t G w t1 G1 wr m1 s1 ∧ (helpL d.st d.sw).run s m = (helpL d.st (d.sw.drop i)).run s1 m1 ∧ i ≤ d.n ∧ m1.count ≤ m.count + i ∧ DVar wr w.heap.size d ∧ Loc w0 b c r pb t1 G1 wr w.heap.size
set_option maxHeartbeats 1000000 in
theorem help_E (h : SysE w0 b c r pb po t G w m s) (hc : m.count ≤ 700000) (d : Ds) (hd : d.In G) (hn : d.n ≤ 90000) :
    Calls Tryd.prog 48 #[.pointer (some ⟨pb, po, none⟩), d.v] w fun e w' => Ev w0 b c r pb po t G w RInt ((helpP d).run s m) e w' := by
  have hb0 := (Below.refl w.heap.size w).alloc (Nat.le_refl _) d.obj
  have HH : Hid (HHead w0 b c r pb po t G w d s m 0 (w.alloc d.obj)) := ⟨t, G, m, s, (Aft.refl h).later hb0, rfl, Nat.zero_le _, by simp, dnewd w d, h.fresh d.obj⟩
  have HD := Lib.hid hd
  unfold Ds.v
  unfold Ds.obj at HH
  unfold helpP
  clear h hb0 hd
  have hn2 : (d.n : Int) ≤ 90000 := by omega
  go_enter Tryd.func48, Tryd.ntmps48
  go_wp2_with fail
  go_loopw [14] (fun iv wr => ∃ i : Nat, iv = .int .i64 (i : Int) ∧ i ≤ d.n ∧ Hid (HHead w0 b c r pb po t G w d s m i wr)) (fun iv _ => d.n - (intOf iv).toNat)
  case atStart => exact ⟨0, rfl, Nat.zero_le _, HH⟩
  case round =>
    obtain ⟨i, rfl, hi, hR⟩ := hrel
    clear HH
    obtain ⟨t1, G1, m1, s1, ha, hrun, -, hct, hv, hlo⟩ := hR.out
    have HA := Lib.hid ha
    have HRun := Lib.hid hrun
    have HC := Lib.hid hct
    have HV := Lib.hid hv
    have HLo := Lib.hid hlo
    have hz := hv.lt
    have hc1 : m1.count ≤ 900000 := by omega
    by_cases hlt : i < d.n
    · have i1 : (i : Int) < (d.n : Int) := by omega
      have hsl : i < d.sw.length := by rw [← HD.out.n]; exact hlt
      obtain ⟨x, hx⟩ : ∃ x, d.sw[i]? = some x := ⟨_, List.getElem?_eq_getElem hsl⟩
      have hdrop : d.sw.drop i = x :: d.sw.drop (i + 1) := by
        rw [List.drop_eq_getElem_cons hsl]
        rw [List.getElem?_eq_getElem hsl] at hx
        cases hx; rfl
      obtain ⟨g, eg, hg⟩ : ∃ g, d.ad = some ⟨g, 0, none⟩ ∧ (g, d.sw) ∈ G := by
        rcases HD.out.row with e | e
        · rw [e] at hsl; simp at hsl
        · exact e
      have hat : SwAt wr g (i * 3) x := by
        obtain ⟨m0, s0, h1, -⟩ := ha.sys
        exact (h1.rows g _ (ha.gro.1 _ hg)).1.at_ i x hx
      have k0 := hat.1
      have k1 := hat.2.1
      have k2 := hat.2.2
      have hb2 := (Below.refl wr.heap.size wr).alloc (Nat.le_refl _) (.cells #[.int .i64 x.cell, .int .i64 x.old, .int .i64 x.new] 119)
      have hsw := eswap (ha.sys.later hb2) hc1 x.cell x.old x.new
      have HB2 := Lib.hid hb2
      have HDr := Lib.hid hdrop
      clear hR ha hrun hct hv hlo hsl hx hdrop hg hat hb2
      rw [eg]
      go_wp2_with fail
      refine hsw.mono ?_
      rintro e w2 hE
      have hac := ask_count s1 (.swap x.cell x.old x.new) m1
      rcases hE.cases with ⟨t2, G2, s2, m2, ho, rfl, ha⟩ | ⟨t2, G2, s2, m2, a, v, ho, rfl, rfl, ha⟩
      · have HE : Hid (Ev w0 b c r pb po t G w RInt ((helpL d.st d.sw).run s m) (Halt pb po) w2) := Ev.die (by rw [HRun.out, HDr.out, helpL_cons, Pr.run_ask, ho]) ((HA.out.later HB2.out).trans ha)
        clear hsw hE ho ha hac
        unfold Halt
        go_wp2
        exact ⟨rfl, HE.out⟩
      rw [ho] at hac
      have ha2 := (HA.out.later HB2.out).trans ha
      obtain ⟨v2, l2⟩ := ha.cells (HLo.out.same HB2.out.size) (HV.out.later HB2.out)
      by_cases herr : a.err = 0
      · have HH : Hid (HHead w0 b c r pb po t G w d s m (i + 1) w2) := by
          refine ⟨t2, G2, m2, s2, ha2, ?_, by omega, ?_, v2, l2⟩
          · rw [HRun.out, HDr.out]
            rw [helpL_cons, Pr.run_ask, ho]
            simp only
            rw [if_pos herr]
          · have h1 := hac.2.1
            simp only at h1
            have := HC.out
            push_cast
            omega
        rw [herr]
        have hm : d.n - (i + 1) < d.n - i := by omega
        clear hsw hE ho ha hac ha2 v2 l2 herr
        go_wp2_with fail
        go_roundw
        case rel => exact ⟨i + 1, by simp, by omega, HH⟩
        case measure => simp [intOf]; omega
      · have HE : Hid (Ev w0 b c r pb po t G w RInt ((helpL d.st d.sw).run s m) (.returned (.int .i64 a.err)) w2) := Ev.ret (a := a.err) (by
          rw [HRun.out, HDr.out, helpL_cons, Pr.run_ask, ho]
          simp only
          rw [if_neg herr]
          simp only [Pr.run]) rfl ha2
        clear hsw hE ho ha hac ha2 v2 l2
        go_wp2
        go_ret
        exact HE.out
    · obtain rfl : i = d.n := by omega
      have hdrop : d.sw.drop d.n = [] := by rw [HD.out.n]; exact List.drop_length
      have hsw := eswap ha.sys hc1 d.st 0 1
      have HDr := Lib.hid hdrop
      obtain ⟨c0, c1, c2, c3⟩ := hv.cells
      clear hR ha hrun hct hv hlo hdrop
      go_wp2_with fail
      refine hsw.mono ?_
      rintro e w2 hE
      rcases hE.cases with ⟨t2, G2, s2, m2, ho, rfl, ha⟩ | ⟨t2, G2, s2, m2, a, v, ho, rfl, rfl, ha⟩
      · have HE : Hid (Ev w0 b c r pb po t G w RInt ((helpL d.st d.sw).run s m) (Halt pb po) w2) := Ev.die (by rw [HRun.out, HDr.out, helpL_nil, Pr.run_ask, ho]) (HA.out.trans ha)
        clear hsw hE ho ha
        unfold Halt
        go_wp2
        exact ⟨rfl, HE.out⟩
      · have HE : Hid (Ev w0 b c r pb po t G w RInt ((helpL d.st d.sw).run s m) (.returned (.int .i64 a.err)) w2) := Ev.ret (a := a.err) (by
          rw [HRun.out, HDr.out, helpL_nil, Pr.run_ask, ho]
          simp only [Pr.run]) rfl (HA.out.trans ha)
        clear hsw hE ho ha
        go_wp2
        go_ret
        exact HE.out
end
end Go.Proofs.YtgjkkbgdkdipgaaDoor
/- What lay, Init and Make come to. Conditions: at most 700000 asks; at most 1000000 swaps; the library's table stands. -/
namespace Go.Proofs.YtgjkkbgdkdipgaaDoor
open Go.RowKit Go.Op
set_option maxRecDepth 100000

/-- What lay answers. -/
structure Lr where
  h : Int
  d : Ds
  err : Int
def Ds.at_ (d : Ds) (st : Int) : Ds := { d with st := st }
def layP (d : Ds) (st : Int) : Pr Lr := .ask (.alloc (.word st)) fun a => if a.err = 0 then
    .ask (.alloc (.desc (d.e.at_ a.n))) fun x => if x.err = 0 then .ret ⟨x.n, d.e.at_ a.n, 0⟩ else .ask (.free a.n) fun _ => .ret ⟨0, d0, x.err⟩
    else .ret ⟨0, d0, a.err⟩
def RLay (G' : List (Nat × List Sw)) (a : Lr) (v : Value) : Prop := ∃ d : Ds, d.e = a.d ∧ d.In G' ∧ v = .tuple #[.int .i64 a.h, d.v, .int .i64 a.err]
theorem mk52 (x : Value) (w : World) : (Instr.makeInterface 82 x).run Tryd.prog w = .ok (.iface 82 x) w := run_makeInterface w 82 x (by kernel_rfl)
section
variable {w0 : World} {b c r pb po : Nat} {t t1 : Value} {G G1 : List (Nat × List Sw)} {w w1 w2 : World} {m m1 : M} {s s1 : Pt}
theorem Loc.later {z : Nat} (h : Loc w0 b c r pb t G w z) (hb : Below w.heap.size w w1) : Loc w0 b c r pb t G w1 z := h.same hb.size
set_option maxHeartbeats 1000000 in
theorem lay_E (h : SysE w0 b c r pb po t G w m s) (hT : TabAt w0) (hc : m.count ≤ 800000) (d : Ds) (hd : d.In G) (st : Int) :
    Calls Tryd.prog 78 #[.pointer (some ⟨pb, po, none⟩), d.v, .int .i64 st] w fun e w' => Ev w0 b c r pb po t G w RLay ((layP d st).run s m) e w' := by
  obtain ⟨wa, hwa⟩ : ∃ W, W = (w.alloc d.obj).alloc dobj := ⟨_, rfl⟩
  have hsz : (w.alloc d.obj).heap.size = w.heap.size + 1 := by simp
  have b1 := (Below.refl w.heap.size w).alloc (Nat.le_refl _) d.obj
  have b2 := (Below.refl (w.alloc d.obj).heap.size (w.alloc d.obj)).alloc (Nat.le_refl _) dobj
  have ba : Below w.heap.size w wa := by rw [hwa]; exact b1.alloc (by simp) _
  have va : DVar wa w.heap.size d := by rw [hwa]; exact (dnewd w d).later b2
  have vb : DVar wa (w.heap.size + 1) d0 := by
    have := dnew (w.alloc d.obj)
    rw [hsz] at this
    rw [hwa]; exact this
  have la : Loc w0 b c r pb t G wa w.heap.size := by rw [hwa]; exact (h.fresh d.obj).later b2
  have lb : Loc w0 b c r pb t G wa (w.heap.size + 1) := by
    have := (h.later b1).fresh dobj
    rw [hsz] at this
    rw [hwa]; exact this
  have hal := eallocword (h.later ba) hT (by omega) st
  have hct := ask_count s (.alloc (.word st)) m
  have HW := Lib.hid hwa.symm
  have HB := Lib.hid ba
  have HVA := Lib.hid va
  have HVB := Lib.hid vb
  have HLA := Lib.hid la
  have HLB := Lib.hid lb
  have HD := Lib.hid hd
  have mk := mk52
  unfold Ds.v
  unfold Ds.obj dobj at HW
  clear h hwa hsz b1 b2 ba va vb la lb hd
  go_enter Tryd.func78, Tryd.ntmps78
  go_wp2_with (first | rw [HW.out] | fail)
  refine hal.mono ?_
  rintro e w1 hE
  rcases hE.cases with ⟨t1, G1, s1, m1, ho, rfl, ha⟩ | ⟨t1, G1, s1, m1, a, v, ho, rfl, rfl, ha⟩
  · have HE : Hid (Ev w0 b c r pb po t G w RLay ((layP d st).run s m) (Halt pb po) w1) := Ev.die (by rw [layP, Pr.run_ask, ho]) (ha.back HB.out)
    clear hal hE ho ha
    unfold Halt
    go_wp2
    exact ⟨rfl, HE.out⟩
  rw [ho] at hct
  obtain ⟨va, la⟩ := ha.cells HLA.out HVA.out
  obtain ⟨vb, lb⟩ := ha.cells HLB.out HVB.out
  have ha1 := ha.back HB.out
  have hza := va.lt
  have hzb := vb.lt
  obtain ⟨c0, c1, c2, c3⟩ := va.cells
  obtain ⟨e0, e1, e2, e3⟩ := vb.cells
  have fa := va.fz
  have fb := vb.fz
  by_cases herr : a.err = 0
  · obtain ⟨wc, hwc⟩ : ∃ W, W = w1.setCell ⟨w.heap.size, 2, none⟩ (.int .i64 a.n) := ⟨_, rfl⟩
    have hbc : But w.heap.size w1 wc := by rw [hwc]; exact (But.refl _ _).set _ _
    have vac : DVar wc w.heap.size (d.at_ a.n) := by
      rw [hwc]
      refine ⟨by simp [World.setCell]; exact hza, fun i => by rw [World.frozen?_setCell]; exact fa i, fun j v hj => ?_⟩
      rw [Nat.zero_add]
      match j, hj with
      | 0, hj => simp [Ds.row, Ds.at_] at hj; subst hj; exact set_other c0 (by omega)
      | 1, hj => simp [Ds.row, Ds.at_] at hj; subst hj; exact set_other c1 (by omega)
      | 2, hj => simp [Ds.row, Ds.at_] at hj; subst hj; exact set_same c2
      | 3, hj => simp [Ds.row, Ds.at_] at hj; subst hj; exact set_other c3 (by omega)
    have vbc : DVar wc (w.heap.size + 1) d0 := vb.same hbc.size (hbc.block _ hzb (by omega))
    have ha2 := ha1.aside hbc la (Nat.le_refl _)
    have hin : (d.at_ a.n).In G1 := by
      have := HD.out.more ha.gro.1
      exact ⟨this.n, this.cap, this.few, this.row⟩
    have hal2 := eallocdesc ha2.sys hT (by simp only at hct; omega) (d.at_ a.n) hin
    have hct2 := ask_count s1 (.alloc (.desc (d.at_ a.n).e)) m1
    have hrun1 : (layP d st).run s m = (Pr.ask (.alloc (.desc (d.at_ a.n).e)) fun x => if x.err = 0 then Pr.ret (Lr.mk x.n (d.e.at_ a.n) 0) else .ask (.free a.n) fun _ => .ret ⟨0, d0, x.err⟩).run s1 m1 := by
      rw [layP, Pr.run_ask, ho]; simp only; rw [if_pos herr]; rfl
    have HW2 := Lib.hid hwc.symm
    have HVA2 := Lib.hid vac
    have HVB2 := Lib.hid vbc
    have HLA2 := Lib.hid (la.same hbc.size)
    have HLB2 := Lib.hid (lb.same hbc.size)
    have HA2 := Lib.hid ha2
    have HR := Lib.hid hrun1
    have HI := Lib.hid hin
    obtain ⟨c0', c1', c2', c3'⟩ := vac.cells
    rw [herr]
    unfold Ds.v at hal2
    simp only [Ds.at_] at hal2 c0' c1' c2' c3'
    clear hal hE ho ha herr va la vb lb ha1 hwc hbc vac vbc ha2 hin hrun1
    go_wp2_with (first | rw [HW2.out] | fail)
    refine hal2.mono ?_
    rintro e w2 hE
    rcases hE.cases with ⟨t2, G2, s2, m2, ho, rfl, ha⟩ | ⟨t2, G2, s2, m2, x, v, ho, rfl, rfl, ha⟩
    · have HE : Hid (Ev w0 b c r pb po t G w RLay ((layP d st).run s m) (Halt pb po) w2) := Ev.die (by rw [HR.out, Pr.run_ask]; exact (by rw [show s1.ask (.alloc (.desc (d.at_ a.n).e)) m1 = _ from ho])) (HA2.out.trans ha)
      clear hal2 hE ho ha
      unfold Halt
      go_wp2
      exact ⟨rfl, HE.out⟩
    have ho2 : s1.ask (.alloc (.desc (d.at_ a.n).e)) m1 = (some x, s2, m2) := ho
    rw [ho2] at hct2
    obtain ⟨va, la⟩ := ha.cells HLA2.out HVA2.out
    obtain ⟨vb, lb⟩ := ha.cells HLB2.out HVB2.out
    have ha3 := HA2.out.trans ha
    have hza := va.lt
    have hzb := vb.lt
    obtain ⟨c0, c1, c2, c3⟩ := va.cells
    obtain ⟨e0, e1, e2, e3⟩ := vb.cells
    have fa := va.fz
    have fb := vb.fz
    simp only [Ds.at_] at c0 c1 c2 c3
    by_cases herr : x.err = 0
    · have hrun2 : (layP d st).run s m = (some ⟨x.n, d.e.at_ a.n, 0⟩, s2, m2) := by
        rw [HR.out, Pr.run_ask, ho2]; simp only; rw [if_pos herr]; simp only [Pr.run]
      have HE : Hid (Ev w0 b c r pb po t G w RLay ((layP d st).run s m) (.returned (.tuple #[.int .i64 x.n, (d.at_ a.n).v, .int .i64 0])) (dput w2 (w.heap.size + 1) (d.at_ a.n)).drew ∧ (loadVar 82 ⟨w.heap.size + 1, 0, none⟩).run Tryd.prog (dput w2 (w.heap.size + 1) (d.at_ a.n)).drew = .ok (d.at_ a.n).v (dput w2 (w.heap.size + 1) (d.at_ a.n)).drew) :=
        have hb := (Below.refl (dput w2 (w.heap.size + 1) (d.at_ a.n)).heap.size (dput w2 (w.heap.size + 1) (d.at_ a.n))).drew
        ⟨Ev.ret hrun2 ⟨d.at_ a.n, rfl, HI.out.more ha.gro.1, rfl⟩ ((ha3.aside (dput_but _ _ _) lb (by omega)).later hb), ((vb.put (d.at_ a.n)).later hb).loadVar⟩
      rw [herr]
      clear hal2 hE ho ho2 ha herr hrun2 ha3 va vb la lb
      go_wp2_with fail
      go_region
      go_wp2_with fail
      exact bodyPost_ret (results_mid3 (.int .i64 x.n) (.int .i64 0) Tryd.results78 rfl rfl rfl HE.out.2) rfl HE.out.1
    · have hrun2 : (layP d st).run s m = (Pr.ask (.free a.n) fun _ => Pr.ret (Lr.mk 0 d0 x.err)).run s2 m2 := by
        rw [HR.out, Pr.run_ask, ho2]; simp only; rw [if_neg herr]
      have hfr := efree ha.sys (by simp only at hct hct2; omega) a.n
      have HR2 := Lib.hid hrun2
      have HA3 := Lib.hid ha3
      have HVB3 := Lib.hid vb
      have HLB3 := Lib.hid lb
      clear hal2 hE ho ho2 ha hrun2 ha3 va vb la lb
      go_wp2_with fail
      refine hfr.mono ?_
      rintro e w3 hE
      rcases hE.cases with ⟨t3, G3, s3, m3, ho, rfl, ha⟩ | ⟨t3, G3, s3, m3, y, v, ho, rfl, rfl, ha⟩
      · have HE : Hid (Ev w0 b c r pb po t G w RLay ((layP d st).run s m) (Halt pb po) w3) := Ev.die (by rw [HR2.out, Pr.run_ask, ho]) (HA3.out.trans ha)
        clear hfr hE ho ha
        unfold Halt
        go_wp2
        exact ⟨rfl, HE.out⟩
      obtain ⟨vb, lb⟩ := ha.cells HLB3.out HVB3.out
      have hzb := vb.lt
      obtain ⟨e0, e1, e2, e3⟩ := vb.cells
      have fb := vb.fz
      have HE : Hid (Ev w0 b c r pb po t G w RLay ((layP d st).run s m) (.returned (.tuple #[.int .i64 0, d0.v, .int .i64 x.err])) (dput w3 (w.heap.size + 1) d0) ∧ (loadVar 82 ⟨w.heap.size + 1, 0, none⟩).run Tryd.prog (dput w3 (w.heap.size + 1) d0) = .ok d0.v (dput w3 (w.heap.size + 1) d0)) :=
        ⟨Ev.ret (a := Lr.mk 0 d0 x.err) (by rw [HR2.out, Pr.run_ask, ho]; simp only [Pr.run]) ⟨d0, rfl, d0_in, rfl⟩ ((HA3.out.trans ha).aside (dput_but _ _ _) lb (by omega)), (vb.put d0).loadVar⟩
      clear hfr hE ho ha vb lb c0 c1 c2 c3
      go_wp2
      exact bodyPost_ret (results_mid3 (.int .i64 0) (.int .i64 x.err) Tryd.results78 rfl rfl rfl HE.out.2) rfl HE.out.1
  · have HE : Hid (Ev w0 b c r pb po t G w RLay ((layP d st).run s m) (.returned (.tuple #[.int .i64 0, d0.v, .int .i64 a.err])) (dput w1 (w.heap.size + 1) d0) ∧ (loadVar 82 ⟨w.heap.size + 1, 0, none⟩).run Tryd.prog (dput w1 (w.heap.size + 1) d0) = .ok d0.v (dput w1 (w.heap.size + 1) d0)) :=
      ⟨Ev.ret (a := Lr.mk 0 d0 a.err) (by rw [layP, Pr.run_ask, ho]; simp only; rw [if_neg herr]; simp only [Pr.run]) ⟨d0, rfl, d0_in, rfl⟩ (ha1.aside (dput_but _ _ _) lb (by omega)), (vb.put d0).loadVar⟩
    clear hal hE ho ha ha1 va la vb lb c0 c1 c2 c3
    go_wp2
    exact bodyPost_ret (results_mid3 (.int .i64 0) (.int .i64 a.err) Tryd.results78 rfl rfl rfl HE.out.2) rfl HE.out.1
end
end Go.Proofs.YtgjkkbgdkdipgaaDoor
/- What Init and Make come to. Conditions: at most 700000 asks; at most 1000000 swaps; the library's table stands. -/
namespace Go.Proofs.YtgjkkbgdkdipgaaDoor
open Go.RowKit Go.Op
set_option maxRecDepth 100000

theorem lay_count (d : Ds) (st : Int) (s : Pt) (m : M) : ((layP d st).run s m).2.2.count ≤ m.count + 3 := by
  rw [layP, Pr.run_ask]
  have h1 := ask_count s (.alloc (.word st)) m
  rcases h : s.ask (.alloc (.word st)) m with ⟨_ | a, s1, m1⟩
  · rw [h] at h1; have := h1.2.1; simp only at this ⊢; omega
  rw [h] at h1
  simp only
  split
  · rw [Pr.run_ask]
    have h2 := ask_count s1 (.alloc (.desc (d.e.at_ a.n))) m1
    rcases h' : s1.ask (.alloc (.desc (d.e.at_ a.n))) m1 with ⟨_ | x, s2, m2⟩
    · rw [h'] at h2; have := h1.2.1; have := h2.2.1; simp only at *; omega
    rw [h'] at h2
    simp only
    split
    · simp only [Pr.run]; have := h1.2.1; have := h2.2.1; simp only at *; omega
    · rw [Pr.run_ask]
      have h3 := ask_count s2 (.free a.n) m2
      rcases h'' : s2.ask (.free a.n) m2 with ⟨_ | y, s3, m3⟩
      · rw [h''] at h3; have := h1.2.1; have := h2.2.1; have := h3.2.1; simp only at *; omega
      · rw [h''] at h3; simp only [Pr.run]; have := h1.2.1; have := h2.2.1; have := h3.2.1; simp only at *; omega
  · simp only [Pr.run]; have := h1.2.1; simp only at *; omega
def initP : Pr (Int × Int) := (layP d0 1).bind fun x => if x.err = 0 then .ask (.alloc (.word x.h)) fun a => if a.err = 0 then .ret (a.n, 0) else .ask (.free x.d.st) fun _ => .ask (.free x.h) fun _ => .ret (0, a.err)
    else .ret (0, x.err)
theorem build0v (w : World) : (Instr.build 82 #[]).run Tryd.prog w = .ok (.agg #[.int .i64 0, .int .i64 0, .int .i64 0, .slice none 0 0]) w := build0 w
section
variable {w0 : World} {b c r pb po : Nat} {t t1 : Value} {G G1 : List (Nat × List Sw)} {w w1 w2 : World} {m m1 : M} {s s1 : Pt}
set_option maxHeartbeats 1000000 in
theorem init_E (h : SysE w0 b c r pb po t G w m s) (hT : TabAt w0) (hc : m.count ≤ 700000) :
    Calls Tryd.prog 42 #[.pointer (some ⟨pb, po, none⟩)] w fun e w' => Ev w0 b c r pb po t G w RInt2 (initP.run s m) e w' := by
  have hl := lay_E h hT (by omega) d0 d0_in 1
  have hct := lay_count d0 1 s m
  unfold Ds.v at hl
  simp only [d0] at hl
  clear h
  go_enter Tryd.func42, Tryd.ntmps42
  go_wp2_with fail
  refine hl.mono ?_
  rintro e w1 hE
  rcases hE.cases with ⟨t1, G1, s1, m1, ho, rfl, ha⟩ | ⟨t1, G1, s1, m1, a, v, ho, rfl, ⟨d, hd, hi, rfl⟩, ha⟩
  · have HE : Hid (Ev w0 b c r pb po t G w RInt2 (initP.run s m) (Halt pb po) w1) := Ev.die (Pr.bind_none ho) ha
    clear hl hE ho ha
    unfold Halt
    go_wp2
    exact ⟨rfl, HE.out⟩
  have ho' : (layP d0 1).run s m = (some a, s1, m1) := ho
  rw [ho'] at hct
  have hrun := Pr.bind_some (f := fun x : Lr => if x.err = 0 then Pr.ask (.alloc (.word x.h)) fun a => if a.err = 0 then .ret (a.n, 0) else .ask (.free x.d.st) fun _ => .ask (.free x.h) fun _ => .ret (0, a.err) else .ret ((0 : Int), x.err)) ho'
  have hrun : initP.run s m = _ := hrun
  have hst : d.st = a.d.st := by rw [← hd]; rfl
  by_cases herr : a.err = 0
  · rw [if_pos herr, ← hst] at hrun
    have hb2 := (Below.refl w1.heap.size w1).alloc (Nat.le_refl _) d.obj
    have hal := eallocword (ha.sys.later hb2) hT (by simp only at hct; omega) a.h
    have hct2 := ask_count s1 (.alloc (.word a.h)) m1
    have HR := Lib.hid hrun
    have HA := Lib.hid (ha.later hb2)
    have HV := Lib.hid (dnewd w1 d)
    have HL := Lib.hid (ha.sys.fresh d.obj)
    rw [herr]
    unfold Ds.v
    unfold Ds.obj at hal
    clear hl hE ho ho' ha herr hrun hb2 hi hd hst
    go_wp2_with fail
    refine hal.mono ?_
    rintro e w2 hE
    rcases hE.cases with ⟨t2, G2, s2, m2, ho, rfl, ha⟩ | ⟨t2, G2, s2, m2, x, v, ho, rfl, rfl, ha⟩
    · have HE : Hid (Ev w0 b c r pb po t G w RInt2 (initP.run s m) (Halt pb po) w2) := Ev.die (by rw [HR.out, Pr.run_ask, ho]) (HA.out.trans ha)
      clear hal hE ho ha
      unfold Halt
      go_wp2
      exact ⟨rfl, HE.out⟩
    rw [ho] at hct2
    have ha3 := HA.out.trans ha
    obtain ⟨v2, l2⟩ := ha.cells HL.out HV.out
    obtain ⟨c0, c1, c2, c3⟩ := v2.cells
    have hz := v2.lt
    by_cases herr : x.err = 0
    · have HE : Hid (Ev w0 b c r pb po t G w RInt2 (initP.run s m) (.returned (.tuple #[.int .i64 x.n, .int .i64 0])) w2) := Ev.ret (a := (x.n, 0)) (by rw [HR.out, Pr.run_ask, ho]; simp only; rw [if_pos herr]; simp only [Pr.run]) rfl ha3
      rw [herr]
      clear hal hE ho ha herr ha3 v2 l2
      go_wp2
      go_ret2
      exact HE.out
    · have hf1 := efree ha.sys (by simp only at hct hct2; omega) d.st
      have hct3 := ask_count s2 (.free d.st) m2
      have HR2 : Hid (initP.run s m = (Pr.ask (.free d.st) fun _ => .ask (.free a.h) fun _ => .ret ((0 : Int), x.err)).run s2 m2) := by
        unfold Hid; rw [HR.out, Pr.run_ask, ho]; simp only; rw [if_neg herr]
      have HA3 := Lib.hid ha3
      clear hal hE ho ha ha3 v2 l2
      go_wp2_with fail
      refine hf1.mono ?_
      rintro e w3 hE
      rcases hE.cases with ⟨t3, G3, s3, m3, ho, rfl, ha⟩ | ⟨t3, G3, s3, m3, y, v, ho, rfl, rfl, ha⟩
      · have HE : Hid (Ev w0 b c r pb po t G w RInt2 (initP.run s m) (Halt pb po) w3) := Ev.die (by rw [HR2.out, Pr.run_ask, ho]) (HA3.out.trans ha)
        clear hf1 hE ho ha
        unfold Halt
        go_wp2
        exact ⟨rfl, HE.out⟩
      rw [ho] at hct3
      have hf2 := efree ha.sys (by simp only at hct hct2 hct3; omega) a.h
      have HR3 : Hid (initP.run s m = (Pr.ask (.free a.h) fun _ => .ret ((0 : Int), x.err)).run s3 m3) := by
        unfold Hid; rw [HR2.out, Pr.run_ask, ho]
      have HA4 := Lib.hid (HA3.out.trans ha)
      clear hf1 hE ho ha c0 c1 c2 c3
      go_wp2_with fail
      refine hf2.mono ?_
      rintro e w4 hE
      rcases hE.cases with ⟨t4, G4, s4, m4, ho, rfl, ha⟩ | ⟨t4, G4, s4, m4, z, v, ho, rfl, rfl, ha⟩
      · have HE : Hid (Ev w0 b c r pb po t G w RInt2 (initP.run s m) (Halt pb po) w4) := Ev.die (by rw [HR3.out, Pr.run_ask, ho]) (HA4.out.trans ha)
        clear hf2 hE ho ha
        unfold Halt
        go_wp2
        exact ⟨rfl, HE.out⟩
      · have HE : Hid (Ev w0 b c r pb po t G w RInt2 (initP.run s m) (.returned (.tuple #[.int .i64 0, .int .i64 x.err])) w4) := Ev.ret (a := (0, x.err)) (by rw [HR3.out, Pr.run_ask, ho]; simp only [Pr.run]) rfl (HA4.out.trans ha)
        clear hf2 hE ho ha
        go_wp2
        go_ret2
        exact HE.out
  · rw [if_neg herr] at hrun
    have HE : Hid (∀ o : Obj, Ev w0 b c r pb po t G w RInt2 (initP.run s m) (.returned (.tuple #[.int .i64 0, .int .i64 a.err])) (w1.alloc o)) := fun o =>
      Ev.ret (a := (0, a.err)) (by rw [hrun]; simp only [Pr.run]) rfl (ha.later ((Below.refl _ _).alloc (Nat.le_refl _) o))
    unfold Ds.v
    clear hl hE ho ho' ha hrun hi hd hst
    go_wp2
    go_ret2
    exact HE.out _
def makeP (ver bf : Int) (l : List Sw) : Pr (Int × Int) := (layP ⟨ver, bf, 0, l, none, 0, 0⟩ 0).bind fun x => .ret (x.h, x.err)
theorem lay_e (d : Ds) (st : Int) : layP d.e st = layP d st := rfl
set_option maxHeartbeats 1000000 in
theorem make_E (h : SysE w0 b c r pb po t G w m s) (hT : TabAt w0) (hc : m.count ≤ 700000) (ver bf : Int) (ad : Option Addr) (cap : Nat) (l : List Sw) (hl : l.length ≤ 1000000) (hcap : l.length ≤ cap) (hs : SlAt w ad l) :
    Calls Tryd.prog 45 #[.pointer (some ⟨pb, po, none⟩), .int .i64 ver, .int .i64 bf, .slice ad l.length cap] w fun e w' => Ev w0 b c r pb po t G w RInt2 ((makeP ver bf l).run s m) e w' := by
  have hcl := clone_any w ad cap l hl hcap hs
  have HS := Lib.hid h
  clear h hs
  generalize hn : l.length = n at *
  have HN := Lib.hid hn
  clear hn
  go_enter Tryd.func45, Tryd.ntmps45
  go_wp2_with fail
  refine hcl.mono ?_
  rintro e w1 ⟨⟨ad1, cap1, rfl, hc1, hs1⟩, hb1⟩
  rw [HN.out] at hc1 ⊢
  obtain ⟨G1, hS1, hdi, hg⟩ : ∃ G1, SysE w0 b c r pb po t G1 w1 m s ∧ (Ds.mk ver bf 0 l ad1 n cap1).In G1 ∧ Grow w G G1 := by
    rcases hs1 with e | ⟨g, e, hg, hr⟩
    · exact ⟨G, HS.out.later hb1, ⟨HN.out.symm, hc1, by rw [HN.out]; exact hl, .inl e⟩, Grow.refl _ _⟩
    · exact ⟨(g, l) :: G, HS.out.grow hb1 hg hr, ⟨HN.out.symm, hc1, by rw [HN.out]; exact hl, .inr ⟨g, e, List.mem_cons_self ..⟩⟩, ⟨fun x hx => List.mem_cons_of_mem _ hx, fun x hx => (List.mem_cons.1 hx).elim (fun e => by cases e; exact .inr hg) .inl⟩⟩
  have hb2 := (Below.refl w1.heap.size w1).alloc (Nat.le_refl _) (Ds.mk ver bf 0 l ad1 n cap1).obj
  have hly := lay_E (hS1.later hb2) hT (by omega) (Ds.mk ver bf 0 l ad1 n cap1) hdi 0
  have HA : Hid (Aft w0 b c r pb po t G w t G1 (w1.alloc (Ds.mk ver bf 0 l ad1 n cap1).obj) m s) :=
    ⟨hS1.later hb2, (But5.of hb1).trans (But5.of hb2), Row2.refl _ _, hg⟩
  unfold Ds.v at hly
  unfold Ds.obj at hly HA
  simp only at hly HA
  clear hcl hb1 hS1 hdi hg hb2 hs1 hc1
  go_wp2_with fail
  refine hly.mono ?_
  rintro e w2 hE
  rcases hE.cases with ⟨t2, G2, s2, m2, ho, rfl, ha⟩ | ⟨t2, G2, s2, m2, a, v, ho, rfl, ⟨d, hd, hi, rfl⟩, ha⟩
  · have HE : Hid (Ev w0 b c r pb po t G w RInt2 ((makeP ver bf l).run s m) (Halt pb po) w2) := Ev.die (Pr.bind_none ho) (HA.out.trans ha)
    clear hly hE ho ha
    unfold Halt
    go_wp2
    exact ⟨rfl, HE.out⟩
  · have HE : Hid (∀ o : Obj, Ev w0 b c r pb po t G w RInt2 ((makeP ver bf l).run s m) (.returned (.tuple #[.int .i64 a.h, .int .i64 a.err])) (w2.alloc o)) := fun o =>
      Ev.ret (a := (a.h, a.err)) ((Pr.bind_some ho).trans (by simp only [Pr.run])) rfl ((HA.out.trans ha).later ((Below.refl _ _).alloc (Nat.le_refl _) o))
    unfold Ds.v
    clear hly hE ho ha hd hi
    go_wp2
    go_ret2
    exact HE.out _
end
end Go.Proofs.YtgjkkbgdkdipgaaDoor
/- What Undo and Drop come to. Conditions: at most 700000 asks. -/
namespace Go.Proofs.YtgjkkbgdkdipgaaDoor
open Go.RowKit Go.Op
set_option maxRecDepth 100000

def bothP (h : Int) (q : Int → Qn) : Pr Int := (heldP h).bind fun x => if x.2 = 0 then .ask (q x.1.st) fun a => if a.err = 0 then .ask (q h) fun y => .ret y.err else .ret a.err else .ret x.2
def undoP (h : Int) : Pr Int := bothP h .free
def dropP (h st : Int) : Pr Int := bothP h fun k => .retire k st
section
variable {w0 : World} {b c r pb po : Nat} {t t1 : Value} {G G1 : List (Nat × List Sw)} {w w1 w2 : World} {m m1 : M} {s s1 : Pt}
set_option maxHeartbeats 1000000 in
theorem both_E (h : SysE w0 b c r pb po t G w m s) (hc : m.count ≤ 700000) (k : Int) (q : Int → Qn) (fk : FuncId) (first caps : Array Value) (he : ∀ zs w, (callFunc fk zs).run Tryd.prog w = .ok (.enter fk zs) w)
    (hf : ∀ t1 G1 w1 m1 s1 x, Aft w0 b c r pb po t G w t1 G1 w1 m1 s1 → m1.count ≤ 900000 → Calls Tryd.prog fk (first ++ #[.int .i64 x] ++ caps) w1 fun e w' => Ev w0 b c r pb po t1 G1 w1 (fun _ a v => v = .int .i64 a.err) (s1.ask (q x) m1) e w') :
    Calls Tryd.prog 82 #[.pointer (some ⟨pb, po, none⟩), .int .i64 k, .func (.func fk) first caps] w fun e w' => Ev w0 b c r pb po t G w RInt ((bothP k q).run s m) e w' := by
  have hl := held_E h (by omega) k
  have hct := held_count k s m
  have HF := Lib.hid hf
  clear h hf
  go_enter Tryd.func82, Tryd.ntmps82
  go_wp2_with fail
  refine hl.mono ?_
  rintro e w1 hE
  rcases hE.cases with ⟨t1, G1, s1, m1, ho, rfl, ha⟩ | ⟨t1, G1, s1, m1, a, v, ho, rfl, ⟨d, hd, hi, rfl⟩, ha⟩
  · have HE : Hid (Ev w0 b c r pb po t G w RInt ((bothP k q).run s m) (Halt pb po) w1) := Ev.die (Pr.bind_none ho) ha
    clear hl hE ho ha
    unfold Halt
    go_wp2
    exact ⟨rfl, HE.out⟩
  rw [ho] at hct
  have hrun := Pr.bind_some (f := fun x : Ds × Int => if x.2 = 0 then Pr.ask (q x.1.st) fun a => if a.err = 0 then .ask (q k) fun y => .ret y.err else .ret a.err else .ret x.2) ho
  have hrun : (bothP k q).run s m = _ := hrun
  have hst : d.st = a.1.st := by rw [← hd]; rfl
  have hb2 := (Below.refl w1.heap.size w1).alloc (Nat.le_refl _) d.obj
  by_cases herr : a.2 = 0
  · rw [if_pos herr, ← hst] at hrun
    have hf1 := HF.out t1 G1 (w1.alloc d.obj) m1 s1 d.st (ha.later hb2) (by simp only at hct; omega)
    have hct2 := ask_count s1 (q d.st) m1
    have HR := Lib.hid hrun
    have HA := Lib.hid (ha.later hb2)
    rw [herr]
    unfold Ds.v
    unfold Ds.obj at hf1 HA
    clear hl hE ho ha herr hrun hb2 hi hd hst
    go_wp2_with fail
    refine hf1.mono ?_
    rintro e w2 hE
    rcases hE.cases with ⟨t2, G2, s2, m2, ho, rfl, ha⟩ | ⟨t2, G2, s2, m2, x, v, ho, rfl, rfl, ha⟩
    · have HE : Hid (Ev w0 b c r pb po t G w RInt ((bothP k q).run s m) (Halt pb po) w2) := Ev.die (by rw [HR.out, Pr.run_ask, ho]) (HA.out.trans ha)
      clear hf1 hE ho ha
      unfold Halt
      go_wp2
      exact ⟨rfl, HE.out⟩
    rw [ho] at hct2
    have ha3 := HA.out.trans ha
    by_cases herr : x.err = 0
    · have hf2 := HF.out t2 G2 w2 m2 s2 k ha3 (by simp only at hct hct2; omega)
      have HR2 : Hid ((bothP k q).run s m = (Pr.ask (q k) fun y => Pr.ret y.err).run s2 m2) := by
        unfold Hid; rw [HR.out, Pr.run_ask, ho]; simp only; rw [if_pos herr]
      have HA3 := Lib.hid ha3
      rw [herr]
      clear hf1 hE ho ha herr ha3
      go_wp2_with fail
      refine hf2.mono ?_
      rintro e w3 hE
      rcases hE.cases with ⟨t3, G3, s3, m3, ho, rfl, ha⟩ | ⟨t3, G3, s3, m3, y, v, ho, rfl, rfl, ha⟩
      · have HE : Hid (Ev w0 b c r pb po t G w RInt ((bothP k q).run s m) (Halt pb po) w3) := Ev.die (by rw [HR2.out, Pr.run_ask, ho]) (HA3.out.trans ha)
        clear hf2 hE ho ha
        unfold Halt
        go_wp2
        exact ⟨rfl, HE.out⟩
      · have HE : Hid (Ev w0 b c r pb po t G w RInt ((bothP k q).run s m) (.returned (.int .i64 y.err)) w3) := Ev.ret (a := y.err) (by rw [HR2.out, Pr.run_ask, ho]; simp only [Pr.run]) rfl (HA3.out.trans ha)
        clear hf2 hE ho ha
        go_wp2
        go_ret
        exact HE.out
    · have HE : Hid (Ev w0 b c r pb po t G w RInt ((bothP k q).run s m) (.returned (.int .i64 x.err)) w2) := Ev.ret (a := x.err) (by rw [HR.out, Pr.run_ask, ho]; simp only; rw [if_neg herr]; simp only [Pr.run]) rfl ha3
      clear hf1 hE ho ha ha3
      go_wp2
      go_ret
      exact HE.out
  · rw [if_neg herr] at hrun
    have HE : Hid (∀ o : Obj, Ev w0 b c r pb po t G w RInt ((bothP k q).run s m) (.returned (.int .i64 a.2)) (w1.alloc o)) := fun o =>
      Ev.ret (a := a.2) (by rw [hrun]; simp only [Pr.run]) rfl (ha.later ((Below.refl _ _).alloc (Nat.le_refl _) o))
    unfold Ds.v
    clear hl hE ho ha hrun hi hd hst hb2
    go_wp2
    go_ret
    exact HE.out _
theorem enter_40 (xs : Array Value) (w : World) : (callFunc 77 xs).run Tryd.prog w = .ok (.enter 77 xs) w := by kernel_rfl
theorem hmf1 (fn : Fn) (first cap : Array Value) (w : World) : (Instr.makeFunc fn first cap).run Tryd.prog w = .ok (.func fn first cap) w := rfl
theorem undo_E (h : SysE w0 b c r pb po t G w m s) (hc : m.count ≤ 700000) (k : Int) :
    Calls Tryd.prog 49 #[.pointer (some ⟨pb, po, none⟩), .int .i64 k] w fun e w' => Ev w0 b c r pb po t G w RInt ((undoP k).run s m) e w' := by
  have hb := both_E h hc k .free 77 #[.pointer (some ⟨pb, po, none⟩)] #[] enter_40 (fun t1 G1 w1 m1 s1 x ha hc1 => efree ha.sys hc1 x)
  have hm := hmf1
  clear h
  unfold undoP
  go_enter Tryd.func49, Tryd.ntmps49
  go_wp2_with fail
  refine hb.mono ?_
  rintro e w1 hE
  rcases hE.cases with ⟨t1, G1, s1, m1, ho, rfl, ha⟩ | ⟨t1, G1, s1, m1, a, v, ho, rfl, rfl, ha⟩
  · have HE := Lib.hid hE
    clear hb hE ho ha
    unfold Halt
    go_wp2
    exact ⟨rfl, HE.out⟩
  · have HE := Lib.hid hE
    clear hb hE ho ha
    go_wp2
    go_ret
    exact HE.out
end
end Go.Proofs.YtgjkkbgdkdipgaaDoor
