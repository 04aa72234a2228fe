/- What Latest, Version, Publish and Help come to. Conditions: at most 700000 asks; at most 90000 swaps. -/
import Derived.Test.YteiikkkcjpfapaaDoorPrF
import Derived.Handy
namespace Go.Proofs.YteiikkkcjpfapaaDoor
open Go.RowKit Go.Op
set_option maxRecDepth 100000

section
variable {w0 : World} {b c r pb po : Nat} {t t1 : Value} {G G1 : List (Nat × List Sw)} {w w1 w2 : World} {m m1 : M} {s s1 : Pt}
set_option maxHeartbeats 1000000 in
theorem latest_E (h : SysE w0 b c r pb po t G w m s) (hc : m.count ≤ 800000) (k : Int) :
    Calls Tryd.prog 19 #[.pointer (some ⟨pb, po, none⟩), .int .i64 k] w fun e w' => Ev w0 b c r pb po t G w RLa ((lastP k).run s m) e w' := by
  have hb0 := (Below.refl w.heap.size w).alloc (Nat.le_refl _) dobj
  have hl := last_E (h.later hb0) hc k
  have HL := Lib.hid (h.fresh dobj)
  have HV := Lib.hid (dnew w)
  have HB := Lib.hid hb0
  clear h hb0
  unfold dobj at hl
  go_enter Tryd.func19, Tryd.ntmps19
  go_wp2_with fail
  refine hl.mono ?_
  rintro e w1 hE
  rcases hE.cases with ⟨t1, G1, s1, m1, ho, rfl, ha⟩ | ⟨t1, G1, s1, m1, a, v, ho, rfl, ⟨d, hd, hi, rfl⟩, ha⟩
  · have HE : Hid (Ev w0 b c r pb po t G w RLa ((lastP k).run s m) (Halt pb po) w1) := Ev.die ho (ha.back HB.out)
    clear hl hE ho ha
    unfold Halt
    go_wp2
    exact ⟨rfl, HE.out⟩
  · obtain ⟨v1, l1⟩ := ha.cells HL.out HV.out
    have ha1 := ha.back HB.out
    have hz := v1.lt
    have hcl := eclone (ha1.later ((Below.refl w1.heap.size w1).alloc (Nat.le_refl _) d.obj)) d hi
    have HN := Lib.hid (dnewd w1 d)
    have HL1 := Lib.hid (l1.same (((Below.refl w1.heap.size w1).alloc (Nat.le_refl _) d.obj)).size)
    have HV1 := Lib.hid (v1.later ((Below.refl w1.heap.size w1).alloc (Nat.le_refl _) d.obj))
    have HF := Lib.hid (ha1.sys.fresh d.obj)
    have HA := Lib.hid ha1
    have HO := Lib.hid ho
    have HD := Lib.hid hd
    unfold Ds.v
    unfold Ds.obj at hcl
    clear hl hE ho ha v1 l1 ha1 hi hd
    go_wp2_with fail
    refine hcl.mono ?_
    rintro e w2 ⟨⟨ad, cap, G2, rfl, hi2, ha2, hs2⟩, hb2⟩
    have n2 := HN.out.later hb2
    have v2 := HV1.out.later hb2
    obtain ⟨c0, c1, c2, c3⟩ := v2.cells
    obtain ⟨e0, e1, e2, e3⟩ := n2.cells
    have fz := v2.fz
    have fn := n2.fz
    have l2 := HF.out.grow hb2.size hs2
    have l3 := HL1.out.grow hb2.size hs2
    have b3 : But w1.heap.size w2 (w2.setCell ⟨w1.heap.size, 3, none⟩ (.slice ad d.n cap)) := (But.refl _ _).set _ _
    have v3 := v2.same b3.size (b3.block _ v2.lt (by omega))
    have HE : Hid (Ev w0 b c r pb po t G w RLa ((lastP k).run s m) (.returned (.tuple #[.int .i64 a.h, (Ds.mk d.ver d.bf d.st d.sw ad d.n cap).v, .bool a.is, .int .i64 a.err])) (dput (w2.setCell ⟨w1.heap.size, 3, none⟩ (.slice ad d.n cap)) w.heap.size (Ds.mk d.ver d.bf d.st d.sw ad d.n cap)).drew) :=
      Ev.ret HO.out ⟨Ds.mk d.ver d.bf d.st d.sw ad d.n cap, HD.out, hi2, rfl⟩ (((ha2.aside b3 l2 HA.out.but.size).aside (dput_but _ _ _) (l3.same b3.size) (Nat.le_refl _)).later ((Below.refl _ _).drew))
    have HG := Lib.hid ((v3.put (Ds.mk d.ver d.bf d.st d.sw ad d.n cap)).later ((Below.refl _ _).drew)).loadVar
    clear hcl v2 n2 ha2 l2 l3 b3 v3 hs2 hi2 hb2
    go_wp2_with fail
    go_region
    go_wp2_with fail
    exact bodyPost_ret (results_mid4 (.int .i64 a.h) (.bool a.is) (.int .i64 a.err) Tryd.results19 rfl rfl rfl rfl HG.out) rfl HE.out
def versionP (k : Int) : Pr (Int × Int) := (lastP k).bind fun x => .ret (if x.is = true then x.d.ver else x.d.bf, x.err)
def RInt2 (_ : List (Nat × List Sw)) (a : Int × Int) (v : Value) : Prop := v = .tuple #[.int .i64 a.1, .int .i64 a.2]
theorem version_E (h : SysE w0 b c r pb po t G w m s) (hc : m.count ≤ 800000) (k : Int) :
    Calls Tryd.prog 39 #[.pointer (some ⟨pb, po, none⟩), .int .i64 k] w fun e w' => Ev w0 b c r pb po t G w RInt2 ((versionP k).run s m) e w' := by
  have hl := last_E h hc k
  clear h
  go_enter Tryd.func39, Tryd.ntmps39
  go_wp2_with fail
  refine hl.mono ?_
  rintro e w1 hE
  rcases hE.cases with ⟨t1, G1, s1, m1, ho, rfl, ha⟩ | ⟨t1, G1, s1, m1, a, v, ho, rfl, ⟨d, hd, hi, rfl⟩, ha⟩
  · have HE : Hid (Ev w0 b c r pb po t G w RInt2 ((versionP k).run s m) (Halt pb po) w1) := Ev.die (Pr.bind_none ho) ha
    clear hl hE ho ha
    unfold Halt
    go_wp2
    exact ⟨rfl, HE.out⟩
  · have hr1 : (versionP k).run s m = (some (if a.is = true then a.d.ver else a.d.bf, a.err), s1, m1) := by
      rw [versionP, Pr.bind_some ho]; simp only [Pr.run]
    have e1 : d.ver = a.d.ver := by rw [← hd]; rfl
    have e2 : d.bf = a.d.bf := by rw [← hd]; rfl
    rw [← e1, ← e2] at hr1
    have HE : Hid (∀ o : Obj, Ev w0 b c r pb po t G w RInt2 ((versionP k).run s m) (.returned (.tuple #[.int .i64 (if a.is = true then d.ver else d.bf), .int .i64 a.err])) (w1.alloc o)) := fun o =>
      Ev.ret hr1 rfl (ha.later ((Below.refl _ _).alloc (Nat.le_refl _) o))
    unfold Ds.v
    clear hl hE ho ha hr1 e1 e2 hd hi
    cases his : a.is with
    | true =>
      rw [his] at HE
      clear his
      go_wp2
      go_ret2
      exact HE.out _
    | false =>
      rw [his] at HE
      clear his
      go_wp2
      go_ret2
      exact HE.out _
theorem publish_E (h : SysE w0 b c r pb po t G w m s) (hc : m.count ≤ 900000) (k o n : Int) :
    Calls Tryd.prog 42 #[.pointer (some ⟨pb, po, none⟩), .int .i64 k, .int .i64 o, .int .i64 n] w fun e w' => Ev w0 b c r pb po t G w (fun _ a v => v = .tuple #[.bool a.ok, .int .i64 a.err]) (s.ask (.swap k o n) m) e w' := by
  have hl := eswap h hc k o n
  clear h
  go_enter Tryd.func42, Tryd.ntmps42
  go_wp2_with fail
  refine hl.mono ?_
  rintro e w1 hE
  rcases hE.cases with ⟨t1, G1, s1, m1, ho, rfl, ha⟩ | ⟨t1, G1, s1, m1, a, v, ho, rfl, rfl, ha⟩
  · have HE := Lib.hid hE
    clear hl hE ho ha
    unfold Halt
    go_wp2
    exact ⟨rfl, HE.out⟩
  · have HE := Lib.hid hE
    clear hl hE ho ha
    go_wp2
    go_ret2
    exact HE.out
def helpL (st : Int) : List Sw → Pr Int
  | [] => .ask (.swap st 0 1) fun a => .ret a.err
  | x :: l => .ask (.swap x.cell x.old x.new) fun a => if a.err = 0 then helpL st l else .ret a.err
theorem helpL_cons (st : Int) (x : Sw) (l : List Sw) : helpL st (x :: l) = .ask (.swap x.cell x.old x.new) fun a => if a.err = 0 then helpL st l else .ret a.err := rfl
theorem helpL_nil (st : Int) : helpL st [] = .ask (.swap st 0 1) fun a => .ret a.err := rfl
def helpP (d : Ds) : Pr Int := helpL d.st d.sw
def RInt (_ : List (Nat × List Sw)) (a : Int) (v : Value) : Prop := v = .int .i64 a
theorem load_90 {w : World} {g o : Nat} {x : Sw} (h : SwAt w g o x) : (Instr.loadAt 90 (.pointer (some ⟨g, o, none⟩))).run Tryd.prog w = .ok (.agg #[.int .i64 x.cell, .int .i64 x.old, .int .i64 x.new]) w :=
  run_loadAt_mid w g o 90 x.row _ (fun j v hj => by
    match j, hj with
    | 0, hj => simp [Sw.row] at hj; subst hj; exact h.1
    | 1, hj => simp [Sw.row] at hj; subst hj; exact h.2.1
    | 2, hj => simp [Sw.row] at hj; subst hj; exact h.2.2) Tryd.underlying90 rfl (by kernel_rfl)
/-- At the loop's head. -/
def HHead (w0 : World) (b c r pb po : Nat) (t : Value) (G : List (Nat × List Sw)) (w : World) (d : Ds) (s : Pt) (m : M) (i : Nat) (wr : World) : Prop :=
  ∃ t1 G1 m1 s1, Aft w0 b c r pb po t G w t1 G1 wr m1 s1 ∧ (helpL d.st d.sw).run s m = (helpL d.st (d.sw.drop i)).run s1 m1 ∧ i ≤ d.n ∧ m1.count ≤ m.count + i ∧ DVar wr w.heap.size d ∧ Loc w0 b c r pb t1 G1 wr w.heap.size
set_option maxHeartbeats 1000000 in
theorem help_E (h : SysE w0 b c r pb po t G w m s) (hc : m.count ≤ 700000) (d : Ds) (hd : d.In G) (hn : d.n ≤ 90000) :
    Calls Tryd.prog 22 #[.pointer (some ⟨pb, po, none⟩), d.v] w fun e w' => Ev w0 b c r pb po t G w RInt ((helpP d).run s m) e w' := by
  have hb0 := (Below.refl w.heap.size w).alloc (Nat.le_refl _) d.obj
  have HH : Hid (HHead w0 b c r pb po t G w d s m 0 (w.alloc d.obj)) := ⟨t, G, m, s, (Aft.refl h).later hb0, rfl, Nat.zero_le _, by simp, dnewd w d, h.fresh d.obj⟩
  have HD := Lib.hid hd
  unfold Ds.v
  unfold Ds.obj at HH
  unfold helpP
  clear h hb0 hd
  have hn2 : (d.n : Int) ≤ 90000 := by omega
  go_enter Tryd.func22, Tryd.ntmps22
  go_wp2_with fail
  go_loopw [14] (fun iv wr => ∃ i : Nat, iv = .int .i64 (i : Int) ∧ i ≤ d.n ∧ Hid (HHead w0 b c r pb po t G w d s m i wr)) (fun iv _ => d.n - (intOf iv).toNat)
  case atStart => exact ⟨0, rfl, Nat.zero_le _, HH⟩
  case round =>
    obtain ⟨i, rfl, hi, hR⟩ := hrel
    clear HH
    obtain ⟨t1, G1, m1, s1, ha, hrun, -, hct, hv, hlo⟩ := hR.out
    have HA := Lib.hid ha
    have HRun := Lib.hid hrun
    have HC := Lib.hid hct
    have HV := Lib.hid hv
    have HLo := Lib.hid hlo
    have hz := hv.lt
    have hc1 : m1.count ≤ 900000 := by omega
    by_cases hlt : i < d.n
    · have i1 : (i : Int) < (d.n : Int) := by omega
      have hsl : i < d.sw.length := by rw [← HD.out.n]; exact hlt
      obtain ⟨x, hx⟩ : ∃ x, d.sw[i]? = some x := ⟨_, List.getElem?_eq_getElem hsl⟩
      have hdrop : d.sw.drop i = x :: d.sw.drop (i + 1) := by
        rw [List.drop_eq_getElem_cons hsl]
        rw [List.getElem?_eq_getElem hsl] at hx
        cases hx; rfl
      obtain ⟨g, eg, hg⟩ : ∃ g, d.ad = some ⟨g, 0, none⟩ ∧ (g, d.sw) ∈ G := by
        rcases HD.out.row with e | e
        · rw [e] at hsl; simp at hsl
        · exact e
      have hat : SwAt wr g (i * 3) x := by
        obtain ⟨m0, s0, h1, -⟩ := ha.sys
        exact (h1.rows g _ (ha.gro.1 _ hg)).1.at_ i x hx
      have k0 := hat.1
      have k1 := hat.2.1
      have k2 := hat.2.2
      have hb2 := (Below.refl wr.heap.size wr).alloc (Nat.le_refl _) (.cells #[.int .i64 x.cell, .int .i64 x.old, .int .i64 x.new] 90)
      have hsw := eswap (ha.sys.later hb2) hc1 x.cell x.old x.new
      have HB2 := Lib.hid hb2
      have HDr := Lib.hid hdrop
      clear hR ha hrun hct hv hlo hsl hx hdrop hg hat hb2
      rw [eg]
      go_wp2_with fail
      refine hsw.mono ?_
      rintro e w2 hE
      have hac := ask_count s1 (.swap x.cell x.old x.new) m1
      rcases hE.cases with ⟨t2, G2, s2, m2, ho, rfl, ha⟩ | ⟨t2, G2, s2, m2, a, v, ho, rfl, rfl, ha⟩
      · have HE : Hid (Ev w0 b c r pb po t G w RInt ((helpL d.st d.sw).run s m) (Halt pb po) w2) := Ev.die (by rw [HRun.out, HDr.out, helpL_cons, Pr.run_ask, ho]) ((HA.out.later HB2.out).trans ha)
        clear hsw hE ho ha hac
        unfold Halt
        go_wp2
        exact ⟨rfl, HE.out⟩
      rw [ho] at hac
      have ha2 := (HA.out.later HB2.out).trans ha
      obtain ⟨v2, l2⟩ := ha.cells (HLo.out.same HB2.out.size) (HV.out.later HB2.out)
      by_cases herr : a.err = 0
      · have HH : Hid (HHead w0 b c r pb po t G w d s m (i + 1) w2) := by
          refine ⟨t2, G2, m2, s2, ha2, ?_, by omega, ?_, v2, l2⟩
          · rw [HRun.out, HDr.out]
            rw [helpL_cons, Pr.run_ask, ho]
            simp only
            rw [if_pos herr]
          · have h1 := hac.2.1
            simp only at h1
            have := HC.out
            push_cast
            omega
        rw [herr]
        have hm : d.n - (i + 1) < d.n - i := by omega
        clear hsw hE ho ha hac ha2 v2 l2 herr
        go_wp2_with fail
        go_roundw
        case rel => exact ⟨i + 1, by simp, by omega, HH⟩
        case measure => simp [intOf]; omega
      · have HE : Hid (Ev w0 b c r pb po t G w RInt ((helpL d.st d.sw).run s m) (.returned (.int .i64 a.err)) w2) := Ev.ret (a := a.err) (by
          rw [HRun.out, HDr.out, helpL_cons, Pr.run_ask, ho]
          simp only
          rw [if_neg herr]
          simp only [Pr.run]) rfl ha2
        clear hsw hE ho ha hac ha2 v2 l2
        go_wp2
        go_ret
        exact HE.out
    · obtain rfl : i = d.n := by omega
      have hdrop : d.sw.drop d.n = [] := by rw [HD.out.n]; exact List.drop_length
      have hsw := eswap ha.sys hc1 d.st 0 1
      have HDr := Lib.hid hdrop
      obtain ⟨c0, c1, c2, c3⟩ := hv.cells
      clear hR ha hrun hct hv hlo hdrop
      go_wp2_with fail
      refine hsw.mono ?_
      rintro e w2 hE
      rcases hE.cases with ⟨t2, G2, s2, m2, ho, rfl, ha⟩ | ⟨t2, G2, s2, m2, a, v, ho, rfl, rfl, ha⟩
      · have HE : Hid (Ev w0 b c r pb po t G w RInt ((helpL d.st d.sw).run s m) (Halt pb po) w2) := Ev.die (by rw [HRun.out, HDr.out, helpL_nil, Pr.run_ask, ho]) (HA.out.trans ha)
        clear hsw hE ho ha
        unfold Halt
        go_wp2
        exact ⟨rfl, HE.out⟩
      · have HE : Hid (Ev w0 b c r pb po t G w RInt ((helpL d.st d.sw).run s m) (.returned (.int .i64 a.err)) w2) := Ev.ret (a := a.err) (by
          rw [HRun.out, HDr.out, helpL_nil, Pr.run_ask, ho]
          simp only [Pr.run]) rfl (HA.out.trans ha)
        clear hsw hE ho ha
        go_wp2
        go_ret
        exact HE.out
end
end Go.Proofs.YteiikkkcjpfapaaDoor
