/- What Oldest, Least, Enter, Hold, Leave come to. Conditions: at most 700000 asks; at most 64 slots and 64 places. -/
import Derived.Test.YtgjkkbgdkdipgaaDoorRgC
namespace Go.Proofs.YtgjkkbgdkdipgaaDoor
open Go.RowKit Go.Op
set_option maxRecDepth 100000

theorem Pr.ask_some {α : Type} {q : Qn} {k : An → Pr α} {s s' : Pt} {m m' : M} {a : An} (h : s.ask q m = (some a, s', m')) : (Pr.ask q k).run s m = (k a).run s' m' := by
  rw [Pr.run_ask, h]
theorem heldP_le (k : Int) : (heldP k).Le 1 := .ask _ _ _ fun _ => .ret _ _
theorem lastP_le (k : Int) : (lastP k).Le 3 := by
  refine .ask _ _ _ fun a => ?_
  split
  · refine ((heldP_le a.n).bind (m := 1) fun x => ?_).more (by omega)
    split
    · refine .ask _ _ _ fun y => ?_
      split <;> exact .ret _ _
    · exact .ret _ _
  · exact .ret _ _
theorem versionP_le (k : Int) : (versionP k).Le 3 := ((lastP_le k).bind (m := 0) fun _ => .ret _ _).more (by omega)
def leastP (top k : Int) (S P : List Int) : Pr (Int × Int) := (versionP top).bind fun x => if x.2 = 0 then (slotsP k 0 x.1 S).bind fun y => if y.2 = 0 then (snapsP y.1 P).bind fun z => if z.2 = 0 then slotsP k 0 z.1 S else .ret z else .ret y else .ret x
def enterP (top k : Int) (S : List Int) : Pr (Int × Int) := if isC S k = true then .ask (.store (S.getD k.toNat 0) 1) fun a => if a.err = 0 then (versionP top).bind fun x => if x.2 = 0 then .ask (.store (S.getD k.toNat 0) (wrap64 (x.1 + 1))) fun y => if y.err = 0 then .ret (x.1, 0) else .ret (0, y.err) else .ret (0, x.2) else .ret (0, a.err) else .ret (0, 10)
def holdP (k v : Int) (S : List Int) : Pr Int := if isC S k = true ∧ isV v = true then .ask (.store (S.getD k.toNat 0) (v + 1)) fun a => .ret a.err else .ret 10
def leaveP (k : Int) (S : List Int) : Pr Int := if isC S k = true then .ask (.store (S.getD k.toNat 0) 0) fun a => .ret a.err else .ret 10
theorem getd_at {l : List Int} {i : Nat} (h : i < l.length) : l[i]? = some (l.getD i 0) := by
  simp [List.getD, List.getElem?_eq_getElem h]
theorem row_at31 (g n c : Nat) (k : Int) (h : 0 ≤ k ∧ k < (n : Int)) (w : World) : (Instr.indexAt 31 (.slice (some ⟨g, 0, none⟩) n c) (.int .i64 k)).run Tryd.prog w = .ok (.pointer (some ⟨g, k.toNat, none⟩)) w := by
  obtain ⟨j, rfl⟩ : ∃ j : Nat, k = (j : Int) := ⟨k.toNat, by omega⟩
  have h1 : j < n := by omega
  simp only [Int.toNat_natCast]
  go_simp
theorem RgAt.slot {w0 : World} {b c r pb : Nat} {t : Value} {G : List (Nat × List Sw)} {w : World} {R : Rg} {S P : List Int} (h : RgAt w0 b c r pb t G w R S P) {g : Nat} {k : Int} (eg : R.sa = some ⟨g, 0, none⟩) (hk : isC S k = true) : w.cell? ⟨g, k.toNat, none⟩ = some (.int .i64 (S.getD k.toNat 0)) := by
  have hk2 : 0 ≤ k ∧ k < (S.length : Int) := of_decide_eq_true hk
  obtain ⟨g', e', h1⟩ := h.s.see (getd_at (l := S) (i := k.toNat) (by omega))
  rw [eg] at e'
  cases e'
  exact h1
section
variable {w0 : World} {b c r pb po : Nat} {t t1 t2 : Value} {G G1 G2 : List (Nat × List Sw)} {w w1 w2 : World} {m m1 m2 : M} {s s1 s2 : Pt} {R : Rg} {S P : List Int}
set_option maxHeartbeats 1000000 in
theorem oldest_E (h : SysE w0 b c r pb po t G w m s) (hc : m.count ≤ 700000) (hR : RgAt w0 b c r pb t G w R S P) (k : Int) :
    Calls Tryd.prog 37 #[.pointer (some ⟨pb, po, none⟩), R.v, .int .i64 k] w fun e w' => Ev w0 b c r pb po t G w RInt2 ((slotsP k 0 1073741825 S).run s m) e w' := by
  obtain ⟨top, sa, sn, sc, pa, pn, pc⟩ := R
  have hb0 := (Below.refl w.heap.size w).alloc (Nat.le_refl _) (Rg.mk top sa sn sc pa pn pc).obj
  have hA := (Aft.refl h).later hb0
  have HA := Lib.hid hA
  have HRg := Lib.hid (hR.later hb0)
  have HV := Lib.hid (rnew w ⟨top, sa, sn, sc, pa, pn, pc⟩)
  have HLo := Lib.hid (h.fresh (Rg.mk top sa sn sc pa pn pc).obj)
  have HS : Hid (sn = S.length ∧ S.length ≤ 64 ∧ pn = P.length ∧ P.length ≤ 64) := ⟨hR.sn, hR.sf, hR.pn, hR.pf⟩
  have HC : Hid (m.count ≤ 700000) := hc
  generalize ho : (slotsP k 0 1073741825 S).run s m = o
  have HRun := Lib.hid ho.symm
  have hw0 : w.heap.size < (w.alloc (Rg.mk top sa sn sc pa pn pc).obj).heap.size := by simp
  simp only [Rg.obj, Rg.v] at HA HRg HV HLo hw0 ⊢
  clear h hR hb0 hA hc ho
  have hs := ofslots_E HA.out.sys (by have := HC.out; omega) HRg.out k 1073741825
  simp only [Rg.v] at hs
  obtain ⟨c0, c1, c2⟩ := HV.out.cells
  simp only at c0 c1 c2
  go_enter Tryd.func37, Tryd.ntmps37
  go_wp2_with fail
  refine hs.mono ?_
  rintro e w1 hE
  rcases hE.cases with ⟨t1, G1, s1, m1, ho, rfl, ha⟩ | ⟨t1, G1, s1, m1, a1, v, ho, rfl, rfl, ha⟩
  · have HE : Hid (Ev w0 b c r pb po t G w RInt2 (o) (Halt pb po) w1) := Ev.die (by rw [HRun.out, ho]) (HA.out.trans ha)
    clear hs hE ho ha c0 c1 c2
    unfold Halt
    go_wp2
    exact ⟨rfl, HE.out⟩
  have hrun := HRun.out.trans ho
  replace HA := Lib.hid (HA.out.trans ha)
  clear hs hE ho ha 
  have HE : Hid (Ev w0 b c r pb po t G w RInt2 (o) (.returned (.tuple #[.int .i64 a1.1, .int .i64 a1.2])) w1) := Ev.ret (a := a1) hrun rfl HA.out
  clear hrun 
  go_wp2
  go_ret2
  exact HE.out
set_option maxHeartbeats 1000000 in
theorem least_E (h : SysE w0 b c r pb po t G w m s) (hc : m.count ≤ 700000) (hR : RgAt w0 b c r pb t G w R S P) (k : Int) :
    Calls Tryd.prog 29 #[.pointer (some ⟨pb, po, none⟩), R.v, .int .i64 k] w fun e w' => Ev w0 b c r pb po t G w RInt2 ((leastP R.top k S P).run s m) e w' := by
  obtain ⟨top, sa, sn, sc, pa, pn, pc⟩ := R
  have hb0 := (Below.refl w.heap.size w).alloc (Nat.le_refl _) (Rg.mk top sa sn sc pa pn pc).obj
  have hA := (Aft.refl h).later hb0
  have HA := Lib.hid hA
  have HRg := Lib.hid (hR.later hb0)
  have HV := Lib.hid (rnew w ⟨top, sa, sn, sc, pa, pn, pc⟩)
  have HLo := Lib.hid (h.fresh (Rg.mk top sa sn sc pa pn pc).obj)
  have HS : Hid (sn = S.length ∧ S.length ≤ 64 ∧ pn = P.length ∧ P.length ≤ 64) := ⟨hR.sn, hR.sf, hR.pn, hR.pf⟩
  have HC : Hid (m.count ≤ 700000) := hc
  generalize ho : (leastP top k S P).run s m = o
  have HRun := Lib.hid ho.symm
  have hw0 : w.heap.size < (w.alloc (Rg.mk top sa sn sc pa pn pc).obj).heap.size := by simp
  simp only [Rg.obj, Rg.v] at HA HRg HV HLo hw0 ⊢
  clear h hR hb0 hA hc ho
  simp only [leastP] at HRun
  have hv0 := version_E HA.out.sys (by have := HC.out; omega) top
  obtain ⟨c0, c1, c2⟩ := HV.out.cells
  simp only at c0 c1 c2
  go_enter Tryd.func29, Tryd.ntmps29
  go_wp2_with fail
  refine hv0.mono ?_
  rintro e w1 hE
  rcases hE.cases with ⟨t1, G1, s1, m1, ho, rfl, ha⟩ | ⟨t1, G1, s1, m1, a1, v, ho, rfl, rfl, ha⟩
  · have HE : Hid (Ev w0 b c r pb po t G w RInt2 (o) (Halt pb po) w1) := Ev.die (by rw [HRun.out, Pr.bind_none ho]) (HA.out.trans ha)
    clear hv0 hE ho ha c0 c1 c2
    unfold Halt
    go_wp2
    exact ⟨rfl, HE.out⟩
  have hrun := HRun.out.trans (Pr.bind_some ho)
  try dsimp only at hrun
  have hct := (versionP_le _).out ho
  obtain ⟨hv, hl⟩ := ha.rcells HLo.out HV.out
  replace HV := Lib.hid hv
  replace HLo := Lib.hid hl
  have hrg := HRg.out.aft ha
  replace HRg := Lib.hid hrg
  replace HA := Lib.hid (HA.out.trans ha)
  replace HC : Hid (m1.count ≤ 700003) := by have h1 := HC.out; unfold Hid; omega
  clear hv0 hE ho ha hct hv hl hrg
  clear c0 c1 c2
  obtain ⟨n1, e1⟩ := a1
  simp only at hrun ⊢
  by_cases herr : e1 = 0
  · subst herr
    rw [if_pos rfl] at hrun
    replace HRun := Lib.hid hrun
    clear hrun
    have hs := ofslots_E HA.out.sys (by have := HC.out; omega) HRg.out k n1
    simp only [Rg.v] at hs
    obtain ⟨c0, c1, c2⟩ := HV.out.cells
    simp only at c0 c1 c2
    go_wp2_with fail
    refine hs.mono ?_
    rintro e w2 hE
    rcases hE.cases with ⟨t2, G2, s2, m2, ho, rfl, ha⟩ | ⟨t2, G2, s2, m2, a2, v, ho, rfl, rfl, ha⟩
    · have HE : Hid (Ev w0 b c r pb po t G w RInt2 (o) (Halt pb po) w2) := Ev.die (by rw [HRun.out, Pr.bind_none ho]) (HA.out.trans ha)
      clear hs hE ho ha c0 c1 c2
      unfold Halt
      go_wp2
      exact ⟨rfl, HE.out⟩
    have hrun := HRun.out.trans (Pr.bind_some ho)
    try dsimp only at hrun
    have hct := ((slotsP_le _ _ _ _).more HS.out.2.1).out ho
    obtain ⟨hv, hl⟩ := ha.rcells HLo.out HV.out
    replace HV := Lib.hid hv
    replace HLo := Lib.hid hl
    have hrg := HRg.out.aft ha
    replace HRg := Lib.hid hrg
    replace HA := Lib.hid (HA.out.trans ha)
    replace HC : Hid (m2.count ≤ 700067) := by have h1 := HC.out; unfold Hid; omega
    clear hs hE ho ha hct hv hl hrg
    clear c0 c1 c2
    obtain ⟨n2, e2⟩ := a2
    simp only at hrun ⊢
    by_cases herr : e2 = 0
    · subst herr
      rw [if_pos rfl] at hrun
      replace HRun := Lib.hid hrun
      clear hrun
      have hs := ofsnaps_E HA.out.sys (by have := HC.out; omega) HRg.out n2
      simp only [Rg.v] at hs
      obtain ⟨c0, c1, c2⟩ := HV.out.cells
      simp only at c0 c1 c2
      go_wp2_with fail
      refine hs.mono ?_
      rintro e w3 hE
      rcases hE.cases with ⟨t3, G3, s3, m3, ho, rfl, ha⟩ | ⟨t3, G3, s3, m3, a3, v, ho, rfl, rfl, ha⟩
      · have HE : Hid (Ev w0 b c r pb po t G w RInt2 (o) (Halt pb po) w3) := Ev.die (by rw [HRun.out, Pr.bind_none ho]) (HA.out.trans ha)
        clear hs hE ho ha c0 c1 c2
        unfold Halt
        go_wp2
        exact ⟨rfl, HE.out⟩
      have hrun := HRun.out.trans (Pr.bind_some ho)
      try dsimp only at hrun
      have hct := ((snapsP_le _ _).more HS.out.2.2.2).out ho
      obtain ⟨hv, hl⟩ := ha.rcells HLo.out HV.out
      replace HV := Lib.hid hv
      replace HLo := Lib.hid hl
      have hrg := HRg.out.aft ha
      replace HRg := Lib.hid hrg
      replace HA := Lib.hid (HA.out.trans ha)
      replace HC : Hid (m3.count ≤ 700131) := by have h1 := HC.out; unfold Hid; omega
      clear hs hE ho ha hct hv hl hrg
      clear c0 c1 c2
      obtain ⟨n3, e3⟩ := a3
      simp only at hrun ⊢
      by_cases herr : e3 = 0
      · subst herr
        rw [if_pos rfl] at hrun
        replace HRun := Lib.hid hrun
        clear hrun
        have hs := ofslots_E HA.out.sys (by have := HC.out; omega) HRg.out k n3
        simp only [Rg.v] at hs
        obtain ⟨c0, c1, c2⟩ := HV.out.cells
        simp only at c0 c1 c2
        go_wp2_with fail
        refine hs.mono ?_
        rintro e w4 hE
        rcases hE.cases with ⟨t4, G4, s4, m4, ho, rfl, ha⟩ | ⟨t4, G4, s4, m4, a4, v, ho, rfl, rfl, ha⟩
        · have HE : Hid (Ev w0 b c r pb po t G w RInt2 (o) (Halt pb po) w4) := Ev.die (by rw [HRun.out, ho]) (HA.out.trans ha)
          clear hs hE ho ha c0 c1 c2
          unfold Halt
          go_wp2
          exact ⟨rfl, HE.out⟩
        have hrun := HRun.out.trans ho
        replace HA := Lib.hid (HA.out.trans ha)
        clear hs hE ho ha 
        have HE : Hid (Ev w0 b c r pb po t G w RInt2 (o) (.returned (.tuple #[.int .i64 a4.1, .int .i64 a4.2])) w4) := Ev.ret (a := a4) hrun rfl HA.out
        clear hrun 
        go_wp2
        go_ret2
        exact HE.out
      · rw [if_neg herr] at hrun
        have HE : Hid (Ev w0 b c r pb po t G w RInt2 (o) (.returned (.tuple #[.int .i64 n3, .int .i64 e3])) w3) := Ev.ret (a := (n3, e3)) (by rw [hrun]; simp only [Pr.run]) rfl HA.out
        clear hrun 
        go_wp2
        go_ret2
        exact HE.out
    · rw [if_neg herr] at hrun
      have HE : Hid (Ev w0 b c r pb po t G w RInt2 (o) (.returned (.tuple #[.int .i64 n2, .int .i64 e2])) w2) := Ev.ret (a := (n2, e2)) (by rw [hrun]; simp only [Pr.run]) rfl HA.out
      clear hrun 
      go_wp2
      go_ret2
      exact HE.out
  · rw [if_neg herr] at hrun
    have HE : Hid (Ev w0 b c r pb po t G w RInt2 (o) (.returned (.tuple #[.int .i64 n1, .int .i64 e1])) w1) := Ev.ret (a := (n1, e1)) (by rw [hrun]; simp only [Pr.run]) rfl HA.out
    clear hrun 
    go_wp2
    go_ret2
    exact HE.out
set_option maxHeartbeats 1000000 in
theorem enter_E (h : SysE w0 b c r pb po t G w m s) (hc : m.count ≤ 700000) (hR : RgAt w0 b c r pb t G w R S P) (k : Int) :
    Calls Tryd.prog 19 #[.pointer (some ⟨pb, po, none⟩), R.v, .int .i64 k] w fun e w' => Ev w0 b c r pb po t G w RInt2 ((enterP R.top k S).run s m) e w' := by
  obtain ⟨top, sa, sn, sc, pa, pn, pc⟩ := R
  have hb0 := (Below.refl w.heap.size w).alloc (Nat.le_refl _) (Rg.mk top sa sn sc pa pn pc).obj
  have hA := (Aft.refl h).later hb0
  have HA := Lib.hid hA
  have HRg := Lib.hid (hR.later hb0)
  have HV := Lib.hid (rnew w ⟨top, sa, sn, sc, pa, pn, pc⟩)
  have HLo := Lib.hid (h.fresh (Rg.mk top sa sn sc pa pn pc).obj)
  have HS : Hid (sn = S.length ∧ S.length ≤ 64 ∧ pn = P.length ∧ P.length ≤ 64) := ⟨hR.sn, hR.sf, hR.pn, hR.pf⟩
  have HC : Hid (m.count ≤ 700000) := hc
  generalize ho : (enterP top k S).run s m = o
  have HRun := Lib.hid ho.symm
  have hw0 : w.heap.size < (w.alloc (Rg.mk top sa sn sc pa pn pc).obj).heap.size := by simp
  simp only [Rg.obj, Rg.v] at HA HRg HV HLo hw0 ⊢
  clear h hR hb0 hA hc ho
  simp only [enterP] at HRun
  have hcl := fun w => isclient_any ⟨top, sa, sn, sc, pa, pn, pc⟩ S HS.out.1 HS.out.2.1 k w
  simp only [Rg.v] at hcl
  by_cases hk : isC S k = true
  · have hk2 : 0 ≤ k ∧ k < (S.length : Int) := of_decide_eq_true hk
    have hrun := HRun.out
    rw [if_pos hk] at hrun
    replace HRun := Lib.hid hrun
    rw [hk] at hcl
    obtain ⟨g, eg, -⟩ := HRg.out.s.see (getd_at (l := S) (i := k.toNat) (by omega))
    simp only at eg
    subst eg
    have hi := row_at31 g sn sc k (by rw [HS.out.1]; exact hk2)
    clear hrun hk2
    obtain ⟨c0, c1, c2⟩ := HV.out.cells
    simp only at c0 c1 c2
    go_enter Tryd.func19, Tryd.ntmps19
    go_wp2_with fail
    refine (hcl _).mono ?_
    rintro e wc ⟨rfl, hbc⟩
    replace HRg := Lib.hid (HRg.out.later hbc)
    replace HV := Lib.hid (HV.out.later hbc)
    replace HLo := Lib.hid (HLo.out.later hbc)
    replace HA := Lib.hid (HA.out.later hbc)
    clear hcl hbc c0 c1 c2
    have hst := estore HA.out.sys (by have := HC.out; omega) (S.getD k.toNat 0) (1)
    have k0 := HRg.out.slot rfl hk
    obtain ⟨c0, c1, c2⟩ := HV.out.cells
    simp only at c0 c1 c2
    go_wp2_with fail
    refine hst.mono ?_
    rintro e w1 hE
    rcases hE.cases with ⟨t1, G1, s1, m1, ho, rfl, ha⟩ | ⟨t1, G1, s1, m1, a1, v, ho, rfl, rfl, ha⟩
    · have HE : Hid (Ev w0 b c r pb po t G w RInt2 (o) (Halt pb po) w1) := Ev.die (by rw [HRun.out, Pr.run_ask, ho]) (HA.out.trans ha)
      clear hst hE ho ha c0 c1 c2 k0
      unfold Halt
      go_wp2
      exact ⟨rfl, HE.out⟩
    have hrun := HRun.out.trans (Pr.ask_some ho)
    try dsimp only at hrun
    have hct := ask_out ho
    obtain ⟨hv, hl⟩ := ha.rcells HLo.out HV.out
    replace HV := Lib.hid hv
    replace HLo := Lib.hid hl
    have hrg := HRg.out.aft ha
    replace HRg := Lib.hid hrg
    replace HA := Lib.hid (HA.out.trans ha)
    replace HC : Hid (m1.count ≤ 700001) := by have h1 := HC.out; unfold Hid; omega
    clear hst hE ho ha hct hv hl hrg
    clear c0 c1 c2 k0
    by_cases herr : a1.err = 0
    · rw [if_pos herr] at hrun
      rw [herr]
      replace HRun := Lib.hid hrun
      clear hrun herr
      have hv0 := version_E HA.out.sys (by have := HC.out; omega) top
      obtain ⟨c0, c1, c2⟩ := HV.out.cells
      simp only at c0 c1 c2
      go_wp2_with fail
      refine hv0.mono ?_
      rintro e w2 hE
      rcases hE.cases with ⟨t2, G2, s2, m2, ho, rfl, ha⟩ | ⟨t2, G2, s2, m2, a2, v, ho, rfl, rfl, ha⟩
      · have HE : Hid (Ev w0 b c r pb po t G w RInt2 (o) (Halt pb po) w2) := Ev.die (by rw [HRun.out, Pr.bind_none ho]) (HA.out.trans ha)
        clear hv0 hE ho ha c0 c1 c2
        unfold Halt
        go_wp2
        exact ⟨rfl, HE.out⟩
      have hrun := HRun.out.trans (Pr.bind_some ho)
      try dsimp only at hrun
      have hct := (versionP_le _).out ho
      obtain ⟨hv, hl⟩ := ha.rcells HLo.out HV.out
      replace HV := Lib.hid hv
      replace HLo := Lib.hid hl
      have hrg := HRg.out.aft ha
      replace HRg := Lib.hid hrg
      replace HA := Lib.hid (HA.out.trans ha)
      replace HC : Hid (m2.count ≤ 700004) := by have h1 := HC.out; unfold Hid; omega
      clear hv0 hE ho ha hct hv hl hrg
      clear c0 c1 c2
      obtain ⟨n1, e1⟩ := a2
      simp only at hrun ⊢
      by_cases herr : e1 = 0
      · subst herr
        rw [if_pos rfl] at hrun
        replace HRun := Lib.hid hrun
        clear hrun
        have hst := estore HA.out.sys (by have := HC.out; omega) (S.getD k.toNat 0) (wrap64 (n1 + 1))
        have k0 := HRg.out.slot rfl hk
        obtain ⟨c0, c1, c2⟩ := HV.out.cells
        simp only at c0 c1 c2
        go_wp2_with fail
        refine hst.mono ?_
        rintro e w3 hE
        rcases hE.cases with ⟨t3, G3, s3, m3, ho, rfl, ha⟩ | ⟨t3, G3, s3, m3, a3, v, ho, rfl, rfl, ha⟩
        · have HE : Hid (Ev w0 b c r pb po t G w RInt2 (o) (Halt pb po) w3) := Ev.die (by rw [HRun.out, Pr.run_ask, ho]) (HA.out.trans ha)
          clear hst hE ho ha c0 c1 c2 k0
          unfold Halt
          go_wp2
          exact ⟨rfl, HE.out⟩
        have hrun := HRun.out.trans (Pr.ask_some ho)
        try dsimp only at hrun
        have hct := ask_out ho
        obtain ⟨hv, hl⟩ := ha.rcells HLo.out HV.out
        replace HV := Lib.hid hv
        replace HLo := Lib.hid hl
        have hrg := HRg.out.aft ha
        replace HRg := Lib.hid hrg
        replace HA := Lib.hid (HA.out.trans ha)
        replace HC : Hid (m3.count ≤ 700005) := by have h1 := HC.out; unfold Hid; omega
        clear hst hE ho ha hct hv hl hrg
        clear c0 c1 c2 k0
        by_cases herr : a3.err = 0
        · rw [if_pos herr] at hrun
          rw [herr]
          clear herr
          have HE : Hid (Ev w0 b c r pb po t G w RInt2 (o) (.returned (.tuple #[.int .i64 n1, .int .i64 0])) w3) := Ev.ret (a := (n1, 0)) (by rw [hrun]; simp only [Pr.run]) rfl HA.out
          clear hrun 
          go_wp2
          go_ret2
          exact HE.out
        · rw [if_neg herr] at hrun
          have HE : Hid (Ev w0 b c r pb po t G w RInt2 (o) (.returned (.tuple #[.int .i64 0, .int .i64 a3.err])) w3) := Ev.ret (a := (0, a3.err)) (by rw [hrun]; simp only [Pr.run]) rfl HA.out
          clear hrun 
          go_wp2
          go_ret2
          exact HE.out
      · rw [if_neg herr] at hrun
        have HE : Hid (Ev w0 b c r pb po t G w RInt2 (o) (.returned (.tuple #[.int .i64 0, .int .i64 e1])) w2) := Ev.ret (a := (0, e1)) (by rw [hrun]; simp only [Pr.run]) rfl HA.out
        clear hrun 
        go_wp2
        go_ret2
        exact HE.out
    · rw [if_neg herr] at hrun
      have HE : Hid (Ev w0 b c r pb po t G w RInt2 (o) (.returned (.tuple #[.int .i64 0, .int .i64 a1.err])) w1) := Ev.ret (a := (0, a1.err)) (by rw [hrun]; simp only [Pr.run]) rfl HA.out
      clear hrun 
      go_wp2
      go_ret2
      exact HE.out
  · have hk2 : isC S k = false := by simpa using hk
    have hrun := HRun.out
    rw [if_neg hk] at hrun
    rw [hk2] at hcl
    clear hk2
    obtain ⟨c0, c1, c2⟩ := HV.out.cells
    simp only at c0 c1 c2
    go_enter Tryd.func19, Tryd.ntmps19
    go_wp2_with fail
    refine (hcl _).mono ?_
    rintro e wc ⟨rfl, hbc⟩
    replace HRg := Lib.hid (HRg.out.later hbc)
    replace HV := Lib.hid (HV.out.later hbc)
    replace HLo := Lib.hid (HLo.out.later hbc)
    replace HA := Lib.hid (HA.out.later hbc)
    clear hcl hbc c0 c1 c2
    have HE : Hid (Ev w0 b c r pb po t G w RInt2 o (.returned (.tuple #[.int .i64 0, .int .i64 10])) wc) := Ev.ret (a := (0, 10)) (by rw [hrun]; simp only [Pr.run]) rfl HA.out
    clear hrun
    go_wp2
    go_ret2
    exact HE.out
set_option maxHeartbeats 1000000 in
theorem leave_E (h : SysE w0 b c r pb po t G w m s) (hc : m.count ≤ 700000) (hR : RgAt w0 b c r pb t G w R S P) (k : Int) :
    Calls Tryd.prog 22 #[.pointer (some ⟨pb, po, none⟩), R.v, .int .i64 k] w fun e w' => Ev w0 b c r pb po t G w RInt ((leaveP k S).run s m) e w' := by
  obtain ⟨top, sa, sn, sc, pa, pn, pc⟩ := R
  have hb0 := (Below.refl w.heap.size w).alloc (Nat.le_refl _) (Rg.mk top sa sn sc pa pn pc).obj
  have hA := (Aft.refl h).later hb0
  have HA := Lib.hid hA
  have HRg := Lib.hid (hR.later hb0)
  have HV := Lib.hid (rnew w ⟨top, sa, sn, sc, pa, pn, pc⟩)
  have HLo := Lib.hid (h.fresh (Rg.mk top sa sn sc pa pn pc).obj)
  have HS : Hid (sn = S.length ∧ S.length ≤ 64 ∧ pn = P.length ∧ P.length ≤ 64) := ⟨hR.sn, hR.sf, hR.pn, hR.pf⟩
  have HC : Hid (m.count ≤ 700000) := hc
  generalize ho : (leaveP k S).run s m = o
  have HRun := Lib.hid ho.symm
  have hw0 : w.heap.size < (w.alloc (Rg.mk top sa sn sc pa pn pc).obj).heap.size := by simp
  simp only [Rg.obj, Rg.v] at HA HRg HV HLo hw0 ⊢
  clear h hR hb0 hA hc ho
  simp only [leaveP] at HRun
  have hcl := fun w => isclient_any ⟨top, sa, sn, sc, pa, pn, pc⟩ S HS.out.1 HS.out.2.1 k w
  simp only [Rg.v] at hcl
  by_cases hk : isC S k = true
  · have hk2 : 0 ≤ k ∧ k < (S.length : Int) := of_decide_eq_true hk
    have hrun := HRun.out
    rw [if_pos hk] at hrun
    replace HRun := Lib.hid hrun
    rw [hk] at hcl
    obtain ⟨g, eg, -⟩ := HRg.out.s.see (getd_at (l := S) (i := k.toNat) (by omega))
    simp only at eg
    subst eg
    have hi := row_at31 g sn sc k (by rw [HS.out.1]; exact hk2)
    clear hrun hk2
    obtain ⟨c0, c1, c2⟩ := HV.out.cells
    simp only at c0 c1 c2
    go_enter Tryd.func22, Tryd.ntmps22
    go_wp2_with fail
    refine (hcl _).mono ?_
    rintro e wc ⟨rfl, hbc⟩
    replace HRg := Lib.hid (HRg.out.later hbc)
    replace HV := Lib.hid (HV.out.later hbc)
    replace HLo := Lib.hid (HLo.out.later hbc)
    replace HA := Lib.hid (HA.out.later hbc)
    clear hcl hbc c0 c1 c2
    have hst := estore HA.out.sys (by have := HC.out; omega) (S.getD k.toNat 0) (0)
    have k0 := HRg.out.slot rfl hk
    obtain ⟨c0, c1, c2⟩ := HV.out.cells
    simp only at c0 c1 c2
    go_wp2_with fail
    refine hst.mono ?_
    rintro e w1 hE
    rcases hE.cases with ⟨t1, G1, s1, m1, ho, rfl, ha⟩ | ⟨t1, G1, s1, m1, a1, v, ho, rfl, rfl, ha⟩
    · have HE : Hid (Ev w0 b c r pb po t G w RInt (o) (Halt pb po) w1) := Ev.die (by rw [HRun.out, Pr.run_ask, ho]) (HA.out.trans ha)
      clear hst hE ho ha c0 c1 c2 k0
      unfold Halt
      go_wp2
      exact ⟨rfl, HE.out⟩
    have hrun := HRun.out.trans (Pr.ask_some ho)
    try dsimp only at hrun
    have hct := ask_out ho
    obtain ⟨hv, hl⟩ := ha.rcells HLo.out HV.out
    replace HV := Lib.hid hv
    replace HLo := Lib.hid hl
    have hrg := HRg.out.aft ha
    replace HRg := Lib.hid hrg
    replace HA := Lib.hid (HA.out.trans ha)
    replace HC : Hid (m1.count ≤ 700001) := by have h1 := HC.out; unfold Hid; omega
    clear hst hE ho ha hct hv hl hrg
    clear c0 c1 c2 k0
    have HE : Hid (Ev w0 b c r pb po t G w RInt (o) (.returned (.int .i64 a1.err)) w1) := Ev.ret (a := a1.err) (by rw [hrun]; simp only [Pr.run]) rfl HA.out
    clear hrun 
    go_wp2
    go_ret
    exact HE.out
  · have hk2 : isC S k = false := by simpa using hk
    have hrun := HRun.out
    rw [if_neg hk] at hrun
    rw [hk2] at hcl
    clear hk2
    obtain ⟨c0, c1, c2⟩ := HV.out.cells
    simp only at c0 c1 c2
    go_enter Tryd.func22, Tryd.ntmps22
    go_wp2_with fail
    refine (hcl _).mono ?_
    rintro e wc ⟨rfl, hbc⟩
    replace HRg := Lib.hid (HRg.out.later hbc)
    replace HV := Lib.hid (HV.out.later hbc)
    replace HLo := Lib.hid (HLo.out.later hbc)
    replace HA := Lib.hid (HA.out.later hbc)
    clear hcl hbc c0 c1 c2
    have HE : Hid (Ev w0 b c r pb po t G w RInt o (.returned (.int .i64 10)) wc) := Ev.ret (a := 10) (by rw [hrun]; simp only [Pr.run]) rfl HA.out
    clear hrun
    go_wp2
    go_ret
    exact HE.out
set_option maxHeartbeats 1000000 in
theorem hold_E (h : SysE w0 b c r pb po t G w m s) (hc : m.count ≤ 700000) (hR : RgAt w0 b c r pb t G w R S P) (k v : Int) :
    Calls Tryd.prog 52 #[.pointer (some ⟨pb, po, none⟩), R.v, .int .i64 k, .int .i64 v] w fun e w' => Ev w0 b c r pb po t G w RInt ((holdP k v S).run s m) e w' := by
  obtain ⟨top, sa, sn, sc, pa, pn, pc⟩ := R
  have hb0 := (Below.refl w.heap.size w).alloc (Nat.le_refl _) (Rg.mk top sa sn sc pa pn pc).obj
  have hA := (Aft.refl h).later hb0
  have HA := Lib.hid hA
  have HRg := Lib.hid (hR.later hb0)
  have HV := Lib.hid (rnew w ⟨top, sa, sn, sc, pa, pn, pc⟩)
  have HLo := Lib.hid (h.fresh (Rg.mk top sa sn sc pa pn pc).obj)
  have HS : Hid (sn = S.length ∧ S.length ≤ 64 ∧ pn = P.length ∧ P.length ≤ 64) := ⟨hR.sn, hR.sf, hR.pn, hR.pf⟩
  have HC : Hid (m.count ≤ 700000) := hc
  generalize ho : (holdP k v S).run s m = o
  have HRun := Lib.hid ho.symm
  have hw0 : w.heap.size < (w.alloc (Rg.mk top sa sn sc pa pn pc).obj).heap.size := by simp
  simp only [Rg.obj, Rg.v] at HA HRg HV HLo hw0 ⊢
  clear h hR hb0 hA hc ho
  simp only [holdP] at HRun
  have hcl := fun w => isclient_any ⟨top, sa, sn, sc, pa, pn, pc⟩ S HS.out.1 HS.out.2.1 k w
  simp only [Rg.v] at hcl
  have hiv := fun w => isversion_any v w
  by_cases hk : isC S k = true
  · have hk2 : 0 ≤ k ∧ k < (S.length : Int) := of_decide_eq_true hk
    by_cases hv1 : isV v = true
    · have hv2 : 0 ≤ v ∧ v ≤ 1073741824 := of_decide_eq_true hv1
      have hrun := HRun.out
      rw [if_pos ⟨hk, hv1⟩] at hrun
      replace HRun := Lib.hid hrun
      rw [hk] at hcl
      obtain ⟨g, eg, -⟩ := HRg.out.s.see (getd_at (l := S) (i := k.toNat) (by omega))
      simp only at eg
      subst eg
      have hi := row_at31 g sn sc k (by rw [HS.out.1]; exact hk2)
      clear hrun hk2
      rw [hv1] at hiv
      obtain ⟨c0, c1, c2⟩ := HV.out.cells
      simp only at c0 c1 c2
      go_enter Tryd.func52, Tryd.ntmps52
      go_wp2_with fail
      refine (hcl _).mono ?_
      rintro e wc ⟨rfl, hbc⟩
      replace HRg := Lib.hid (HRg.out.later hbc)
      replace HV := Lib.hid (HV.out.later hbc)
      replace HLo := Lib.hid (HLo.out.later hbc)
      replace HA := Lib.hid (HA.out.later hbc)
      clear hcl hbc c0 c1 c2
      go_wp2_with fail
      refine (hiv _).mono ?_
      rintro e wd ⟨rfl, rfl⟩
      have hst := estore HA.out.sys (by have := HC.out; omega) (S.getD k.toNat 0) (v + 1)
      have k0 := HRg.out.slot rfl hk
      obtain ⟨c0, c1, c2⟩ := HV.out.cells
      simp only at c0 c1 c2
      go_wp2_with fail
      refine hst.mono ?_
      rintro e w1 hE
      rcases hE.cases with ⟨t1, G1, s1, m1, ho, rfl, ha⟩ | ⟨t1, G1, s1, m1, a1, v, ho, rfl, rfl, ha⟩
      · have HE : Hid (Ev w0 b c r pb po t G w RInt (o) (Halt pb po) w1) := Ev.die (by rw [HRun.out, Pr.run_ask, ho]) (HA.out.trans ha)
        clear hst hE ho ha c0 c1 c2 k0
        unfold Halt
        go_wp2
        exact ⟨rfl, HE.out⟩
      have hrun := HRun.out.trans (Pr.ask_some ho)
      try dsimp only at hrun
      have hct := ask_out ho
      obtain ⟨hv, hl⟩ := ha.rcells HLo.out HV.out
      replace HV := Lib.hid hv
      replace HLo := Lib.hid hl
      have hrg := HRg.out.aft ha
      replace HRg := Lib.hid hrg
      replace HA := Lib.hid (HA.out.trans ha)
      replace HC : Hid (m1.count ≤ 700001) := by have h1 := HC.out; unfold Hid; omega
      clear hst hE ho ha hct hv hl hrg
      clear c0 c1 c2 k0
      have HE : Hid (Ev w0 b c r pb po t G w RInt (o) (.returned (.int .i64 a1.err)) w1) := Ev.ret (a := a1.err) (by rw [hrun]; simp only [Pr.run]) rfl HA.out
      clear hrun hi
      go_wp2
      go_ret
      exact HE.out
    · have hrun := HRun.out
      rw [if_neg (fun e => hv1 e.2)] at hrun
      rw [hk] at hcl
      have hv3 : isV v = false := by simpa using hv1
      rw [hv3] at hiv
      clear hk2 hv3
      obtain ⟨c0, c1, c2⟩ := HV.out.cells
      simp only at c0 c1 c2
      go_enter Tryd.func52, Tryd.ntmps52
      go_wp2_with fail
      refine (hcl _).mono ?_
      rintro e wc ⟨rfl, hbc⟩
      replace HRg := Lib.hid (HRg.out.later hbc)
      replace HV := Lib.hid (HV.out.later hbc)
      replace HLo := Lib.hid (HLo.out.later hbc)
      replace HA := Lib.hid (HA.out.later hbc)
      clear hcl hbc c0 c1 c2
      have HE : Hid (Ev w0 b c r pb po t G w RInt o (.returned (.int .i64 10)) wc) := Ev.ret (a := 10) (by rw [hrun]; simp only [Pr.run]) rfl HA.out
      clear hrun
      go_wp2_with fail
      refine (hiv _).mono ?_
      rintro e wd ⟨rfl, rfl⟩
      go_wp2
      go_ret
      exact HE.out
  · have hk2 : isC S k = false := by simpa using hk
    have hrun := HRun.out
    rw [if_neg (fun e => hk e.1)] at hrun
    rw [hk2] at hcl
    clear hk2
    obtain ⟨c0, c1, c2⟩ := HV.out.cells
    simp only at c0 c1 c2
    go_enter Tryd.func52, Tryd.ntmps52
    go_wp2_with fail
    refine (hcl _).mono ?_
    rintro e wc ⟨rfl, hbc⟩
    replace HRg := Lib.hid (HRg.out.later hbc)
    replace HV := Lib.hid (HV.out.later hbc)
    replace HLo := Lib.hid (HLo.out.later hbc)
    replace HA := Lib.hid (HA.out.later hbc)
    clear hcl hbc c0 c1 c2
    have HE : Hid (Ev w0 b c r pb po t G w RInt o (.returned (.int .i64 10)) wc) := Ev.ret (a := 10) (by rw [hrun]; simp only [Pr.run]) rfl HA.out
    clear hrun
    go_wp2
    go_ret
    exact HE.out
end
end Go.Proofs.YtgjkkbgdkdipgaaDoor
/- What Open, find, Find, Close come to. Conditions: at most 700000 asks; at most 64 slots and 64 places. -/
namespace Go.Proofs.YtgjkkbgdkdipgaaDoor
open Go.RowKit Go.Op
set_option maxRecDepth 100000

def openL (v : Int) : Nat → List Int → Pr (Int × Int)
  | _, [] => .ret (0, 3)
  | i, h :: l => .ask (.word h) fun a => if a.err = 0 then (if lowW a.n = 0 ∧ genW a.n < 1073741823 then .ask (.swap h a.n (wrap64 (wrap64 (a.n + v) + 1))) fun b => if b.err = 0 then (if b.ok = true then .ret (wrap64 (wrap64 (genW a.n * 64) + (i : Int)), 0) else openL v (i + 1) l) else .ret (0, b.err) else openL v (i + 1) l) else .ret (0, a.err)
theorem openL_nil (v : Int) (i : Nat) : openL v i [] = .ret (0, 3) := rfl
theorem openL_cons (v : Int) (i : Nat) (h : Int) (l : List Int) : openL v i (h :: l) = .ask (.word h) fun a => if a.err = 0 then (if lowW a.n = 0 ∧ genW a.n < 1073741823 then .ask (.swap h a.n (wrap64 (wrap64 (a.n + v) + 1))) fun b => if b.err = 0 then (if b.ok = true then .ret (wrap64 (wrap64 (genW a.n * 64) + (i : Int)), 0) else openL v (i + 1) l) else .ret (0, b.err) else openL v (i + 1) l) else .ret (0, a.err) := rfl
theorem openL_le (v : Int) : ∀ (l : List Int) (i : Nat), (openL v i l).Le (2 * l.length)
  | [], _ => .ret _ _
  | h :: l, i => by
    have e : 2 * (h :: l).length = 2 * l.length + 1 + 1 := by simp; omega
    rw [e]
    refine .ask _ _ _ fun a => ?_
    split
    · split
      · refine .ask _ _ _ fun y => ?_
        split
        · split
          · exact .ret _ _
          · exact openL_le v l _
        · exact .ret _ _
      · exact (openL_le v l _).more (by omega)
    · exact .ret _ _
def openP (v : Int) (P : List Int) : Pr (Int × Int) := if isV v = true then openL v 0 P else .ret (0, 10)
def isP (P : List Int) (id : Int) : Bool := decide (0 ≤ id ∧ id % 64 < (P.length : Int))
def findP (id : Int) (P : List Int) : Pr (Int × Int × Int) := if isP P id = true then .ask (.word (P.getD (id % 64).toNat 0)) fun a => if a.err = 0 then (if lowW a.n = 0 ∨ genW a.n ≠ id / 64 then .ret (0, 0, 2) else .ret (P.getD (id % 64).toNat 0, a.n, 0)) else .ret (0, 0, a.err) else .ret (0, 0, 2)
theorem findP_le (id : Int) (P : List Int) : (findP id P).Le 1 := by
  unfold findP
  split
  · refine .ask _ _ _ fun a => ?_
    split
    · split <;> exact .ret _ _
    · exact .ret _ _
  · exact .ret _ _
def findVP (id : Int) (P : List Int) : Pr (Int × Int) := (findP id P).bind fun x => if x.2.2 = 0 then .ret (lowW x.2.1 - 1, 0) else .ret (0, x.2.2)
def nextW (n : Int) : Int := wrap64 (wrap64 (genW n + 1) * 4294967296)
def closeP (id : Int) (P : List Int) : Pr Int := (findP id P).bind fun x => if x.2.2 = 0 then .ask (.swap x.1 x.2.1 (nextW x.2.1)) fun y => if y.err = 0 ∧ y.ok = false then .ret 2 else .ret y.err else .ret x.2.2
def RInt3 (_ : List (Nat × List Sw)) (a : Int × Int × Int) (v : Value) : Prop := v = .tuple #[.int .i64 a.1, .int .i64 a.2.1, .int .i64 a.2.2]
theorem RgAt.place {w0 : World} {b c r pb : Nat} {t : Value} {G : List (Nat × List Sw)} {w : World} {R : Rg} {S P : List Int} (h : RgAt w0 b c r pb t G w R S P) {g : Nat} {k : Nat} (eg : R.pa = some ⟨g, 0, none⟩) (hk : k < P.length) : w.cell? ⟨g, k, none⟩ = some (.int .i64 (P.getD k 0)) := by
  obtain ⟨g', e', h1⟩ := h.p.see (getd_at (l := P) (i := k) hk)
  rw [eg] at e'
  cases e'
  exact h1
section
variable {w0 : World} {b c r pb po : Nat} {t t1 t2 : Value} {G G1 G2 : List (Nat × List Sw)} {w w1 w2 : World} {m m1 m2 : M} {s s1 s2 : Pt} {R : Rg} {S P : List Int}
set_option maxHeartbeats 1000000 in
theorem find_E (h : SysE w0 b c r pb po t G w m s) (hc : m.count ≤ 700000) (hR : RgAt w0 b c r pb t G w R S P) (id : Int) (hid : id < 9223372036854775808) :
    Calls Tryd.prog 68 #[.pointer (some ⟨pb, po, none⟩), R.v, .int .i64 id] w fun e w' => Ev w0 b c r pb po t G w RInt3 ((findP id P).run s m) e w' := by
  obtain ⟨top, sa, sn, sc, pa, pn, pc⟩ := R
  have hb0 := (Below.refl w.heap.size w).alloc (Nat.le_refl _) (Rg.mk top sa sn sc pa pn pc).obj
  have hA := (Aft.refl h).later hb0
  have HA := Lib.hid hA
  have HRg := Lib.hid (hR.later hb0)
  have HV := Lib.hid (rnew w ⟨top, sa, sn, sc, pa, pn, pc⟩)
  have HLo := Lib.hid (h.fresh (Rg.mk top sa sn sc pa pn pc).obj)
  have HS : Hid (sn = S.length ∧ S.length ≤ 64 ∧ pn = P.length ∧ P.length ≤ 64) := ⟨hR.sn, hR.sf, hR.pn, hR.pf⟩
  have HC : Hid (m.count ≤ 700000) := hc
  generalize ho : (findP id P).run s m = o
  have HRun := Lib.hid ho.symm
  have hw0 : w.heap.size < (w.alloc (Rg.mk top sa sn sc pa pn pc).obj).heap.size := by simp
  simp only [Rg.obj, Rg.v] at HA HRg HV HLo hw0 ⊢
  clear h hR hb0 hA hc ho
  simp only [findP] at HRun
  by_cases hi : isP P id = true
  · have hi2 : 0 ≤ id ∧ id % 64 < (P.length : Int) := of_decide_eq_true hi
    have hrun := HRun.out
    rw [if_pos hi] at hrun
    replace HRun := Lib.hid hrun
    have hlt : (id % 64).toNat < P.length := by omega
    obtain ⟨g, eg, -⟩ := HRg.out.p.see (getd_at (l := P) (i := (id % 64).toNat) hlt)
    simp only at eg
    subst eg
    have k0 := HRg.out.place rfl hlt
    have i1 : id % 64 < (pn : Int) := by rw [HS.out.2.2.1]; exact hi2.2
    have i0 : 0 ≤ id := hi2.1
    have hix := row_at31 g pn pc (id % 64) ⟨by omega, i1⟩
    have hw := eword HA.out.sys (by have := HC.out; omega) (P.getD (id % 64).toNat 0)
    have HLt := Lib.hid hlt
    have E2 : Hid (wrap64 (id.tdiv 64) = id / 64) := by unfold Hid; rw [Int.tdiv_eq_ediv_of_nonneg hi2.1]; unfold wrap64; omega
    clear hrun hi hi2 hlt
    generalize hpq : P.getD (id % 64).toNat 0 = pq at *
    have HPq := Lib.hid hpq.symm
    clear hpq
    obtain ⟨c0, c1, c2⟩ := HV.out.cells
    simp only at c0 c1 c2
    go_enter Tryd.func68, Tryd.ntmps68
    go_wp2_with fail
    refine hw.mono ?_
    rintro e w1 hE
    rcases hE.cases with ⟨t1, G1, s1, m1, ho, rfl, ha⟩ | ⟨t1, G1, s1, m1, a1, v, ho, rfl, rfl, ha⟩
    · have HE : Hid (Ev w0 b c r pb po t G w RInt3 (o) (Halt pb po) w1) := Ev.die (by rw [HRun.out, Pr.run_ask, ho]) (HA.out.trans ha)
      clear hw hE ho ha c0 c1 c2 k0
      unfold Halt
      go_wp2
      exact ⟨rfl, HE.out⟩
    have hrun := HRun.out.trans (Pr.ask_some ho)
    try dsimp only at hrun
    have hct := ask_out ho
    obtain ⟨hv, hl⟩ := ha.rcells HLo.out HV.out
    replace HV := Lib.hid hv
    replace HLo := Lib.hid hl
    have hrg := HRg.out.aft ha
    replace HRg := Lib.hid hrg
    replace HA := Lib.hid (HA.out.trans ha)
    replace HC : Hid (m1.count ≤ 700001) := by have h1 := HC.out; unfold Hid; omega
    clear hw hE ho ha hct hv hl hrg
    clear c0 c1 c2 k0
    by_cases herr : a1.err = 0
    · rw [if_pos herr] at hrun
      rw [herr]
      have hio := fun w => isopen_any a1.n w
      have hgo := fun w => genof_any a1.n w
      by_cases hz : lowW a1.n = 0
      · have e1 : decide (lowW a1.n ≠ 0) = false := decide_eq_false (by simpa using hz)
        rw [e1] at hio
        rw [if_pos (.inl hz)] at hrun
        clear e1
        have HE : Hid (Ev w0 b c r pb po t G w RInt3 o (.returned (.tuple #[.int .i64 0, .int .i64 0, .int .i64 2])) w1) := Ev.ret (a := (0, 0, 2)) (by rw [hrun]; simp only [Pr.run]) rfl HA.out
        clear hrun herr hgo
        go_wp2_with fail
        refine (hio _).mono ?_
        rintro e w2 ⟨rfl, rfl⟩
        go_wp2
        go_ret3
        exact HE.out
      · have e1 : decide (lowW a1.n ≠ 0) = true := decide_eq_true hz
        rw [e1] at hio
        by_cases hg : genW a1.n = id / 64
        · rw [if_neg (by rintro (e | e); exact hz e; exact e hg)] at hrun
          have k1 : w1.cell? ⟨g, (id % 64).toNat, none⟩ = some (.int .i64 pq) := by rw [HPq.out]; exact HRg.out.place rfl HLt.out
          obtain ⟨c0, c1, c2⟩ := HV.out.cells
          simp only at c0 c1 c2
          have HE : Hid (Ev w0 b c r pb po t G w RInt3 o (.returned (.tuple #[.int .i64 pq, .int .i64 a1.n, .int .i64 0])) w1) := Ev.ret (a := (pq, a1.n, 0)) (by rw [hrun]; simp only [Pr.run]) rfl HA.out
          clear hrun herr
          rw [hg] at hgo
          generalize a1.n = an at *
          go_wp2_with fail
          refine (hio _).mono ?_
          rintro e w2 ⟨rfl, rfl⟩
          go_wp2_with fail
          refine (hgo _).mono ?_
          rintro e w2 ⟨rfl, rfl⟩
          go_wp2_with (rw [E2.out])
          go_ret3
          exact HE.out
        · rw [if_pos (.inr hg)] at hrun
          have HE : Hid (Ev w0 b c r pb po t G w RInt3 o (.returned (.tuple #[.int .i64 0, .int .i64 0, .int .i64 2])) w1) := Ev.ret (a := (0, 0, 2)) (by rw [hrun]; simp only [Pr.run]) rfl HA.out
          clear hrun herr
          generalize a1.n = an at *
          generalize genW an = ga at *
          go_wp2_with fail
          refine (hio _).mono ?_
          rintro e w2 ⟨rfl, rfl⟩
          go_wp2_with fail
          refine (hgo _).mono ?_
          rintro e w2 ⟨rfl, rfl⟩
          go_wp2_with (rw [E2.out])
          go_ret3
          exact HE.out
    · rw [if_neg herr] at hrun
      have HE : Hid (Ev w0 b c r pb po t G w RInt3 o (.returned (.tuple #[.int .i64 0, .int .i64 0, .int .i64 a1.err])) w1) := Ev.ret (a := (0, 0, a1.err)) (by rw [hrun]; simp only [Pr.run]) rfl HA.out
      clear hrun
      go_wp2
      go_ret3
      exact HE.out
  · have hrun := HRun.out
    rw [if_neg hi] at hrun
    have HE : Hid (∀ w1, Below (w.alloc (.cells #[.int .i64 top, .slice sa sn sc, .slice pa pn pc] 33)).heap.size (w.alloc (.cells #[.int .i64 top, .slice sa sn sc, .slice pa pn pc] 33)) w1 → Ev w0 b c r pb po t G w RInt3 o (.returned (.tuple #[.int .i64 0, .int .i64 0, .int .i64 2])) w1) := fun w1 hb => Ev.ret (a := (0, 0, 2)) (by rw [hrun]; simp only [Pr.run]) rfl (HA.out.later hb)
    obtain ⟨c0, c1, c2⟩ := HV.out.cells
    simp only at c0 c1 c2
    clear hrun
    by_cases h0 : 0 ≤ id
    · have i1 : ¬ id % 64 < (pn : Int) := fun hh => hi (decide_eq_true ⟨h0, by rw [HS.out.2.2.1] at hh; exact hh⟩)
      clear hi
      go_enter Tryd.func68, Tryd.ntmps68
      go_wp2
      go_ret3
      exact HE.out _ (Below.refl _ _)
    · clear hi
      go_enter Tryd.func68, Tryd.ntmps68
      go_wp2
      go_ret3
      exact HE.out _ (Below.refl _ _)
set_option maxHeartbeats 1000000 in
theorem findv_E (h : SysE w0 b c r pb po t G w m s) (hc : m.count ≤ 700000) (hR : RgAt w0 b c r pb t G w R S P) (id : Int) (hid : id < 9223372036854775808) :
    Calls Tryd.prog 33 #[.pointer (some ⟨pb, po, none⟩), R.v, .int .i64 id] w fun e w' => Ev w0 b c r pb po t G w RInt2 ((findVP id P).run s m) e w' := by
  obtain ⟨top, sa, sn, sc, pa, pn, pc⟩ := R
  have hb0 := (Below.refl w.heap.size w).alloc (Nat.le_refl _) (Rg.mk top sa sn sc pa pn pc).obj
  have hA := (Aft.refl h).later hb0
  have HA := Lib.hid hA
  have HRg := Lib.hid (hR.later hb0)
  have HV := Lib.hid (rnew w ⟨top, sa, sn, sc, pa, pn, pc⟩)
  have HLo := Lib.hid (h.fresh (Rg.mk top sa sn sc pa pn pc).obj)
  have HS : Hid (sn = S.length ∧ S.length ≤ 64 ∧ pn = P.length ∧ P.length ≤ 64) := ⟨hR.sn, hR.sf, hR.pn, hR.pf⟩
  have HC : Hid (m.count ≤ 700000) := hc
  generalize ho : (findVP id P).run s m = o
  have HRun := Lib.hid ho.symm
  have hw0 : w.heap.size < (w.alloc (Rg.mk top sa sn sc pa pn pc).obj).heap.size := by simp
  simp only [Rg.obj, Rg.v] at HA HRg HV HLo hw0 ⊢
  clear h hR hb0 hA hc ho
  simp only [findVP] at HRun
  have hf := find_E HA.out.sys (by have := HC.out; omega) HRg.out id hid
  simp only [Rg.v] at hf
  obtain ⟨c0, c1, c2⟩ := HV.out.cells
  simp only at c0 c1 c2
  go_enter Tryd.func33, Tryd.ntmps33
  go_wp2_with fail
  refine hf.mono ?_
  rintro e w1 hE
  rcases hE.cases with ⟨t1, G1, s1, m1, ho, rfl, ha⟩ | ⟨t1, G1, s1, m1, a1, v, ho, rfl, rfl, ha⟩
  · have HE : Hid (Ev w0 b c r pb po t G w RInt2 (o) (Halt pb po) w1) := Ev.die (by rw [HRun.out, Pr.bind_none ho]) (HA.out.trans ha)
    clear hf hE ho ha c0 c1 c2
    unfold Halt
    go_wp2
    exact ⟨rfl, HE.out⟩
  have hrun := HRun.out.trans (Pr.bind_some ho)
  try dsimp only at hrun
  have hct := (findP_le _ _).out ho
  replace HA := Lib.hid (HA.out.trans ha)
  replace HC : Hid (m1.count ≤ 700001) := by have h1 := HC.out; unfold Hid; omega
  clear hf hE ho ha hct 
  clear c0 c1 c2
  obtain ⟨n1, n2, e1⟩ := a1
  simp only at hrun ⊢
  by_cases herr : e1 = 0
  · subst herr
    rw [if_pos rfl] at hrun
    have hvo := fun w => versionof_any n2 w
    have HE : Hid (Ev w0 b c r pb po t G w RInt2 o (.returned (.tuple #[.int .i64 (lowW n2 - 1), .int .i64 0])) w1) := Ev.ret (a := (lowW n2 - 1, 0)) (by rw [hrun]; simp only [Pr.run]) rfl HA.out
    clear hrun
    go_wp2_with fail
    refine (hvo _).mono ?_
    rintro e w2 ⟨rfl, rfl⟩
    go_wp2
    go_ret2
    exact HE.out
  · rw [if_neg herr] at hrun
    have HE : Hid (Ev w0 b c r pb po t G w RInt2 (o) (.returned (.tuple #[.int .i64 0, .int .i64 e1])) w1) := Ev.ret (a := (0, e1)) (by rw [hrun]; simp only [Pr.run]) rfl HA.out
    clear hrun 
    go_wp2
    go_ret2
    exact HE.out
set_option maxHeartbeats 1000000 in
theorem close_E (h : SysE w0 b c r pb po t G w m s) (hc : m.count ≤ 700000) (hR : RgAt w0 b c r pb t G w R S P) (id : Int) (hid : id < 9223372036854775808) :
    Calls Tryd.prog 27 #[.pointer (some ⟨pb, po, none⟩), R.v, .int .i64 id] w fun e w' => Ev w0 b c r pb po t G w RInt ((closeP id P).run s m) e w' := by
  obtain ⟨top, sa, sn, sc, pa, pn, pc⟩ := R
  have hb0 := (Below.refl w.heap.size w).alloc (Nat.le_refl _) (Rg.mk top sa sn sc pa pn pc).obj
  have hA := (Aft.refl h).later hb0
  have HA := Lib.hid hA
  have HRg := Lib.hid (hR.later hb0)
  have HV := Lib.hid (rnew w ⟨top, sa, sn, sc, pa, pn, pc⟩)
  have HLo := Lib.hid (h.fresh (Rg.mk top sa sn sc pa pn pc).obj)
  have HS : Hid (sn = S.length ∧ S.length ≤ 64 ∧ pn = P.length ∧ P.length ≤ 64) := ⟨hR.sn, hR.sf, hR.pn, hR.pf⟩
  have HC : Hid (m.count ≤ 700000) := hc
  generalize ho : (closeP id P).run s m = o
  have HRun := Lib.hid ho.symm
  have hw0 : w.heap.size < (w.alloc (Rg.mk top sa sn sc pa pn pc).obj).heap.size := by simp
  simp only [Rg.obj, Rg.v] at HA HRg HV HLo hw0 ⊢
  clear h hR hb0 hA hc ho
  simp only [closeP] at HRun
  have hf := find_E HA.out.sys (by have := HC.out; omega) HRg.out id hid
  simp only [Rg.v] at hf
  obtain ⟨c0, c1, c2⟩ := HV.out.cells
  simp only at c0 c1 c2
  go_enter Tryd.func27, Tryd.ntmps27
  go_wp2_with fail
  refine hf.mono ?_
  rintro e w1 hE
  rcases hE.cases with ⟨t1, G1, s1, m1, ho, rfl, ha⟩ | ⟨t1, G1, s1, m1, a1, v, ho, rfl, rfl, ha⟩
  · have HE : Hid (Ev w0 b c r pb po t G w RInt (o) (Halt pb po) w1) := Ev.die (by rw [HRun.out, Pr.bind_none ho]) (HA.out.trans ha)
    clear hf hE ho ha c0 c1 c2
    unfold Halt
    go_wp2
    exact ⟨rfl, HE.out⟩
  have hrun := HRun.out.trans (Pr.bind_some ho)
  try dsimp only at hrun
  have hct := (findP_le _ _).out ho
  replace HA := Lib.hid (HA.out.trans ha)
  replace HC : Hid (m1.count ≤ 700001) := by have h1 := HC.out; unfold Hid; omega
  clear hf hE ho ha hct 
  clear c0 c1 c2
  obtain ⟨n1, n2, e1⟩ := a1
  simp only at hrun ⊢
  by_cases herr : e1 = 0
  · subst herr
    rw [if_pos rfl] at hrun
    replace HRun := Lib.hid hrun
    clear hrun
    have hgo := fun w => genof_any n2 w
    have hsw := eswap HA.out.sys (by have := HC.out; omega) n1 n2 (nextW n2)
    unfold nextW at hsw HRun
    generalize genW n2 = ga at *
    go_wp2_with fail
    refine (hgo _).mono ?_
    rintro e wg ⟨rfl, rfl⟩
    go_wp2_with fail
    refine hsw.mono ?_
    rintro e w2 hE
    rcases hE.cases with ⟨t2, G2, s2, m2, ho, rfl, ha⟩ | ⟨t2, G2, s2, m2, a2, v, ho, rfl, rfl, ha⟩
    · have HE : Hid (Ev w0 b c r pb po t G w RInt (o) (Halt pb po) w2) := Ev.die (by rw [HRun.out, Pr.run_ask, ho]) (HA.out.trans ha)
      clear hsw hE ho ha 
      unfold Halt
      go_wp2
      exact ⟨rfl, HE.out⟩
    have hrun := HRun.out.trans (Pr.ask_some ho)
    try dsimp only at hrun
    have hct := ask_out ho
    replace HA := Lib.hid (HA.out.trans ha)
    replace HC : Hid (m2.count ≤ 700002) := by have h1 := HC.out; unfold Hid; omega
    clear hsw hE ho ha hct 
    by_cases herr : a2.err = 0
    · rw [herr] at hrun ⊢
      cases hok : a2.ok with
      | true =>
        rw [hok, if_neg (by simp)] at hrun
        have HE : Hid (Ev w0 b c r pb po t G w RInt (o) (.returned (.int .i64 0)) w2) := Ev.ret (a := 0) (by rw [hrun]; simp only [Pr.run]) rfl HA.out
        clear hrun hok herr
        go_wp2
        go_ret
        exact HE.out
      | false =>
        rw [hok, if_pos ⟨rfl, rfl⟩] at hrun
        have HE : Hid (Ev w0 b c r pb po t G w RInt (o) (.returned (.int .i64 2)) w2) := Ev.ret (a := 2) (by rw [hrun]; simp only [Pr.run]) rfl HA.out
        clear hrun hok herr
        go_wp2
        go_ret
        exact HE.out
    · rw [if_neg (fun e => herr e.1)] at hrun
      have HE : Hid (Ev w0 b c r pb po t G w RInt (o) (.returned (.int .i64 a2.err)) w2) := Ev.ret (a := a2.err) (by rw [hrun]; simp only [Pr.run]) rfl HA.out
      clear hrun 
      go_wp2
      go_ret
      exact HE.out
  · rw [if_neg herr] at hrun
    have HE : Hid (Ev w0 b c r pb po t G w RInt (o) (.returned (.int .i64 e1)) w1) := Ev.ret (a := e1) (by rw [hrun]; simp only [Pr.run]) rfl HA.out
    clear hrun 
    go_wp2
    go_ret
    exact HE.out
/-- At the loop's head. -/
structure OHead (w0 : World) (b c r pb po : Nat) (t : Value) (G : List (Nat × List Sw)) (w : World) (R : Rg) (S P : List Int) (v : Int) (o : Option (Int × Int) × Pt × M) (m : M) (i : Nat) (t1 : Value) (G1 : List (Nat × List Sw)) (m1 : M) (s1 : Pt) (wr : World) : Prop where
  aft : Aft w0 b c r pb po t G w t1 G1 wr m1 s1
  run : o = (openL v i (P.drop i)).run s1 m1
  cnt : m1.count ≤ m.count + 2 * i
  rg : RgAt w0 b c r pb t1 G1 wr R S P
set_option maxHeartbeats 1000000 in
theorem open_E (h : SysE w0 b c r pb po t G w m s) (hc : m.count ≤ 700000) (hR : RgAt w0 b c r pb t G w R S P) (v : Int) :
    Calls Tryd.prog 20 #[.pointer (some ⟨pb, po, none⟩), R.v, .int .i64 v] w fun e w' => Ev w0 b c r pb po t G w RInt2 ((openP v P).run s m) e w' := by
  obtain ⟨top, sa, sn, sc, pa, pn, pc⟩ := R
  have hb0 := (Below.refl w.heap.size w).alloc (Nat.le_refl _) (Rg.mk top sa sn sc pa pn pc).obj
  have hA := (Aft.refl h).later hb0
  have HA := Lib.hid hA
  have HRg := Lib.hid (hR.later hb0)
  have HV := Lib.hid (rnew w ⟨top, sa, sn, sc, pa, pn, pc⟩)
  have HLo := Lib.hid (h.fresh (Rg.mk top sa sn sc pa pn pc).obj)
  have HS : Hid (sn = S.length ∧ S.length ≤ 64 ∧ pn = P.length ∧ P.length ≤ 64) := ⟨hR.sn, hR.sf, hR.pn, hR.pf⟩
  have HC : Hid (m.count ≤ 700000) := hc
  generalize ho : (openP v P).run s m = o
  have HRun := Lib.hid ho.symm
  have hw0 : w.heap.size < (w.alloc (Rg.mk top sa sn sc pa pn pc).obj).heap.size := by simp
  simp only [Rg.obj, Rg.v] at HA HRg HV HLo hw0 ⊢
  clear h hR hb0 hA hc ho
  simp only [openP] at HRun
  have hiv := fun w => isversion_any v w
  obtain ⟨c0, c1, c2⟩ := HV.out.cells
  simp only at c0 c1 c2
  by_cases hv : isV v = true
  · have hrun := HRun.out
    rw [if_pos hv] at hrun
    rw [hv] at hiv
    have HH : Hid (OHead w0 b c r pb po t G w ⟨top, sa, sn, sc, pa, pn, pc⟩ S P v o m 0 t G m s (w.alloc (.cells #[.int .i64 top, .slice sa sn sc, .slice pa pn pc] 33))) := ⟨HA.out, hrun, by simp, HRg.out⟩
    have hl2 : (P.length : Int) ≤ 64 := by have := HS.out.2.2.2; omega
    have en := HS.out.2.2.1
    subst en
    clear hrun HA HRg HRun HV HLo
    go_enter Tryd.func20, Tryd.ntmps20
    go_wp2_with fail
    refine (hiv _).mono ?_
    rintro e wv ⟨rfl, rfl⟩
    generalize hn : P.length = n at *
    go_wp2_with fail
    go_loopw [19] (fun iv wr => ∃ i : Nat, iv = .int .i64 (i : Int) ∧ i ≤ n ∧ ∃ t1 G1 m1 s1, Hid (OHead w0 b c r pb po t G w ⟨top, sa, sn, sc, pa, n, pc⟩ S P v o m i t1 G1 m1 s1 wr)) (fun iv _ => n - (intOf iv).toNat)
    case atStart => exact ⟨0, rfl, Nat.zero_le _, t, G, m, s, HH⟩
    case round =>
      obtain ⟨i, rfl, hi, t1, G1, m1, s1, hR⟩ := hrel
      clear HH
      by_cases hlt : i < n
      · have i1 : (i : Int) < (n : Int) := by omega
        obtain ⟨x, hx, hdrop⟩ := drop_at (l := P) (i := i) (by omega)
        obtain ⟨g, eg, k0⟩ := hR.out.rg.p.see hx
        simp only at eg
        have hrun := hR.out.run
        rw [hdrop, openL_cons] at hrun
        have HRun := Lib.hid hrun
        have HA := Lib.hid hR.out.aft
        have HRg := Lib.hid hR.out.rg
        have HC1 : Hid (m1.count ≤ m.count + 2 * i) := hR.out.cnt
        have hw := eword HA.out.sys (by have := HC.out; have := HC1.out; have := HS.out.2.2.2; omega) x
        clear hR hx hdrop hrun
        subst eg
        go_wp2_with fail
        refine hw.mono ?_
        rintro e w2 hE
        rcases hE.cases with ⟨t2, G2, s2, m2, ho, rfl, ha⟩ | ⟨t2, G2, s2, m2, a2, y, ho, rfl, rfl, ha⟩
        · have HE : Hid (Ev w0 b c r pb po t G w RInt2 o (Halt pb po) w2) := Ev.die (by rw [HRun.out, Pr.run_ask, ho]) (HA.out.trans ha)
          clear hw hE ho ha
          unfold Halt
          go_wp2
          exact ⟨rfl, HE.out⟩
        have hrun := HRun.out.trans (Pr.ask_some ho)
        try dsimp only at hrun
        have hct := ask_out ho
        have hrg := HRg.out.aft ha
        replace HRg := Lib.hid hrg
        replace HA := Lib.hid (HA.out.trans ha)
        replace HC1 : Hid (m2.count ≤ m.count + 2 * i + 1) := by have h1 := HC1.out; unfold Hid; omega
        clear hw hE ho ha hct hrg
        by_cases herr : a2.err = 0
        · rw [if_pos herr] at hrun
          rw [herr]
          have hio := fun w => isopen_any a2.n w
          have hgo := fun w => genof_any a2.n w
          by_cases hz : lowW a2.n = 0
          · have e1 : decide (lowW a2.n ≠ 0) = false := decide_eq_false (by simpa using hz)
            rw [e1] at hio
            clear e1
            by_cases hg : genW a2.n < 1073741823
            · rw [if_pos ⟨hz, hg⟩] at hrun
              replace HRun := Lib.hid hrun
              have hsw := eswap HA.out.sys (by have := HC.out; have := HC1.out; have := HS.out.2.2.2; omega) x a2.n (wrap64 (wrap64 (a2.n + v) + 1))
              clear hrun herr hz
              generalize a2.n = an at *
              generalize genW an = ga at *
              go_wp2_with fail
              refine (hio _).mono ?_
              rintro e wi ⟨rfl, rfl⟩
              go_wp2_with fail
              refine (hgo _).mono ?_
              rintro e wi ⟨rfl, rfl⟩
              go_wp2_with fail
              refine hsw.mono ?_
              rintro e w3 hE
              rcases hE.cases with ⟨t3, G3, s3, m3, ho, rfl, ha⟩ | ⟨t3, G3, s3, m3, a3, y, ho, rfl, rfl, ha⟩
              · have HE : Hid (Ev w0 b c r pb po t G w RInt2 o (Halt pb po) w3) := Ev.die (by rw [HRun.out, Pr.run_ask, ho]) (HA.out.trans ha)
                clear hsw hE ho ha
                unfold Halt
                go_wp2
                exact ⟨rfl, HE.out⟩
              have hrun := HRun.out.trans (Pr.ask_some ho)
              try dsimp only at hrun
              have hct := ask_out ho
              have hrg := HRg.out.aft ha
              replace HRg := Lib.hid hrg
              replace HA := Lib.hid (HA.out.trans ha)
              replace HC1 : Hid (m3.count ≤ m.count + 2 * i + 2) := by have h1 := HC1.out; unfold Hid; omega
              clear hsw hE ho ha hct hrg
              by_cases herr : a3.err = 0
              · rw [if_pos herr] at hrun
                rw [herr]
                cases hok : a3.ok with
                | true =>
                  rw [hok, if_pos rfl] at hrun
                  have HE : Hid (Ev w0 b c r pb po t G w RInt2 o (.returned (.tuple #[.int .i64 (wrap64 (wrap64 (ga * 64) + (i : Int))), .int .i64 0])) w3) := Ev.ret (a := (wrap64 (wrap64 (ga * 64) + (i : Int)), 0)) (by rw [hrun]; simp only [Pr.run]) rfl HA.out
                  clear hrun herr hok hg
                  go_wp2_with fail
                  refine (hgo _).mono ?_
                  rintro e wi ⟨rfl, rfl⟩
                  go_wp2
                  go_ret2
                  exact HE.out
                | false =>
                  rw [hok, if_neg (by simp)] at hrun
                  have HH : Hid (OHead w0 b c r pb po t G w ⟨top, sa, sn, sc, some ⟨g, 0, none⟩, n, pc⟩ S P v o m (i + 1) t3 G3 m3 s3 w3) := ⟨HA.out, hrun, by have := HC1.out; push_cast; omega, HRg.out⟩
                  clear hrun herr hok hg
                  go_wp2_with fail
                  go_roundw
                  case rel => exact ⟨i + 1, by simp, by omega, t3, G3, m3, s3, HH⟩
                  case measure => simp [intOf]; omega
              · rw [if_neg herr] at hrun
                have HE : Hid (Ev w0 b c r pb po t G w RInt2 o (.returned (.tuple #[.int .i64 0, .int .i64 a3.err])) w3) := Ev.ret (a := (0, a3.err)) (by rw [hrun]; simp only [Pr.run]) rfl HA.out
                clear hrun hg
                go_wp2
                go_ret2
                exact HE.out
            · rw [if_neg (fun e => hg e.2)] at hrun
              have HH : Hid (OHead w0 b c r pb po t G w ⟨top, sa, sn, sc, some ⟨g, 0, none⟩, n, pc⟩ S P v o m (i + 1) t2 G2 m2 s2 w2) := ⟨HA.out, hrun, by have := HC1.out; push_cast; omega, HRg.out⟩
              clear hrun herr hz
              generalize a2.n = an at *
              generalize genW an = ga at *
              go_wp2_with fail
              refine (hio _).mono ?_
              rintro e wi ⟨rfl, rfl⟩
              go_wp2_with fail
              refine (hgo _).mono ?_
              rintro e wi ⟨rfl, rfl⟩
              go_wp2_with fail
              go_roundw
              case rel => exact ⟨i + 1, by simp, by omega, t2, G2, m2, s2, HH⟩
              case measure => simp [intOf]; omega
          · have e1 : decide (lowW a2.n ≠ 0) = true := decide_eq_true hz
            rw [e1] at hio
            rw [if_neg (fun e => hz e.1)] at hrun
            have HH : Hid (OHead w0 b c r pb po t G w ⟨top, sa, sn, sc, some ⟨g, 0, none⟩, n, pc⟩ S P v o m (i + 1) t2 G2 m2 s2 w2) := ⟨HA.out, hrun, by have := HC1.out; push_cast; omega, HRg.out⟩
            clear hrun herr hz e1
            generalize a2.n = an at *
            go_wp2_with fail
            refine (hio _).mono ?_
            rintro e wi ⟨rfl, rfl⟩
            go_wp2_with fail
            go_roundw
            case rel => exact ⟨i + 1, by simp, by omega, t2, G2, m2, s2, HH⟩
            case measure => simp [intOf]; omega
        · rw [if_neg herr] at hrun
          have HE : Hid (Ev w0 b c r pb po t G w RInt2 o (.returned (.tuple #[.int .i64 0, .int .i64 a2.err])) w2) := Ev.ret (a := (0, a2.err)) (by rw [hrun]; simp only [Pr.run]) rfl HA.out
          clear hrun
          go_wp2
          go_ret2
          exact HE.out
      · obtain rfl : i = n := by omega
        have hrun := hR.out.run
        rw [show P.drop i = [] by rw [← hn]; exact List.drop_length, openL_nil] at hrun
        have HE : Hid (Ev w0 b c r pb po t G w RInt2 o (.returned (.tuple #[.int .i64 0, .int .i64 3])) wr) := Ev.ret (a := (0, 3)) (by rw [hrun]; simp only [Pr.run]) rfl hR.out.aft
        clear hR hrun
        go_wp2
        go_ret2
        exact HE.out
  · have hrun := HRun.out
    rw [if_neg hv] at hrun
    have hv2 : isV v = false := by simpa using hv
    rw [hv2] at hiv
    have HE : Hid (Ev w0 b c r pb po t G w RInt2 o (.returned (.tuple #[.int .i64 0, .int .i64 10])) (w.alloc (.cells #[.int .i64 top, .slice sa sn sc, .slice pa pn pc] 33))) := Ev.ret (a := (0, 10)) (by rw [hrun]; simp only [Pr.run]) rfl HA.out
    clear hrun hv hv2
    go_enter Tryd.func20, Tryd.ntmps20
    go_wp2_with fail
    refine (hiv _).mono ?_
    rintro e wv ⟨rfl, rfl⟩
    go_wp2
    go_ret2
    exact HE.out
end
end Go.Proofs.YtgjkkbgdkdipgaaDoor
/- What Init of a register comes to. Conditions: at most 600000 asks; the library's table stands. -/
namespace Go.Proofs.YtgjkkbgdkdipgaaDoor
open Go.RowKit Go.Op
set_option maxRecDepth 100000

def initRP (cl sn : Int) : Pr (List Int × List Int × Int) := if cl < 1 ∨ 64 < cl ∨ sn < 0 ∨ 64 < sn then .ret ([], [], 10) else
  (zerosP cl.toNat []).bind fun x => if x.2 = 0 then (zerosP sn.toNat []).bind fun y => if y.2 = 0 then .ret (x.1, y.1, 0) else (freeP x.1).bind fun _ => .ret ([], [], y.2) else .ret ([], [], x.2)
def RInit (w0 : World) (b c r pb : Nat) (B : Nat) (top : Int) (t : Value) (G : List (Nat × List Sw)) (w : World) (a : List Int × List Int × Int) (v : Value) : Prop :=
  ∃ us up, v = .tuple #[.agg #[.int .i64 (if a.2.2 = 0 then top else 0), us, up], .int .i64 a.2.2] ∧ ZRow w0 b c r pb t G w B us a.1 ∧ ZRow w0 b c r pb t G w B up a.2.1
/-- Not more of them than were asked for. -/
def Pr.All {α : Type} (Q : α → Prop) : Pr α → Prop
  | .ret a => Q a
  | .ask _ k => ∀ a, (k a).All Q
theorem Pr.All.run {α : Type} {Q : α → Prop} : ∀ {p : Pr α}, p.All Q → ∀ {s s' : Pt} {m m' : M} {a : α}, p.run s m = (some a, s', m') → Q a
  | .ret x, h, s, s', m, m', a, hr => by simp only [Pr.run] at hr; cases hr; exact h
  | .ask q k, h, s, s', m, m', a, hr => by
    rw [Pr.run_ask] at hr
    generalize s.ask q m = u at hr
    obtain ⟨_ | y, s1, m1⟩ := u
    · cases hr
    · exact (h y).run hr
theorem Pr.All.bind {α β : Type} {Q : β → Prop} {f : α → Pr β} (hf : ∀ a, (f a).All Q) : ∀ p : Pr α, (p.bind f).All Q
  | .ret a => hf a
  | .ask _ k => fun a => Pr.All.bind hf (k a)
theorem zerosP_all : ∀ (n : Nat) (l : List Int), (zerosP n l).All fun x => x.1.length ≤ n + l.length
  | 0, l => by show l.length ≤ _; omega
  | n + 1, l => by
    intro a
    show (if a.err = 0 then zerosP n (l ++ [a.n]) else (freeP l).bind fun _ => .ret ([], a.err)).All _
    split
    · have := zerosP_all n (l ++ [a.n])
      rw [show n + (l ++ [a.n]).length = n + 1 + l.length by simp; omega] at this
      exact this
    · exact Pr.All.bind (fun _ => Nat.zero_le _) _
theorem ZRow.low {w0 : World} {b c r pb : Nat} {t : Value} {G : List (Nat × List Sw)} {w : World} {B B' : Nat} {v : Value} {l : List Int} (h : ZRow w0 b c r pb t G w B v l) (hB : B' ≤ B) : ZRow w0 b c r pb t G w B' v l :=
  ⟨⟨h.own.1, h.own.2.imp id fun ⟨g, cap, cur, e, hb, hh, hx⟩ => ⟨g, cap, cur, e, Nat.le_trans hB hb, hh, hx⟩⟩, h.loc⟩
theorem mk33_0 (w : World) : (Instr.build 33 #[]).run Tryd.prog w = .ok (Rg.mk 0 none 0 0 none 0 0).v w := by kernel_rfl
section
variable {w0 : World} {b c r pb po : Nat} {t t1 t2 : Value} {G G1 G2 : List (Nat × List Sw)} {w w1 w2 : World} {m m1 m2 : M} {s s1 s2 : Pt}
set_option maxHeartbeats 1000000 in
theorem initr_E (h : SysE w0 b c r pb po t G w m s) (hT : TabAt w0) (hc : m.count ≤ 600000) (top cl sn : Int) :
    Calls Tryd.prog 11 #[.pointer (some ⟨pb, po, none⟩), .int .i64 top, .int .i64 cl, .int .i64 sn] w fun e w' => EvW w0 b c r pb po t G w (RInit w0 b c r pb w.heap.size top) ((initRP cl sn).run s m) e w' := by
  have hb0 := (Below.refl w.heap.size w).alloc (Nat.le_refl _) (Rg.mk 0 none 0 0 none 0 0).obj
  have hA := (Aft.refl h).later hb0
  have HA := Lib.hid hA
  have HV := Lib.hid (rnew w (Rg.mk 0 none 0 0 none 0 0))
  have HLo := Lib.hid (h.fresh (Rg.mk 0 none 0 0 none 0 0).obj)
  have HC : Hid (m.count ≤ 600000) := hc
  have HT := Lib.hid hT
  generalize ho : (initRP cl sn).run s m = o
  have HRun := Lib.hid ho.symm
  simp only [Rg.obj] at HA HV HLo
  simp only [initRP] at HRun
  clear h hT hb0 hA hc ho
  have fin : ∀ (tx : Value) (Gx : List (Nat × List Sw)) (wx : World) (mx : M) (sx : Pt) (S P : List Int) (err : Int) (us up : Value) (R R0 : Rg), o = (some (S, P, err), sx, mx) → Aft w0 b c r pb po t G w tx Gx wx mx sx → Loc w0 b c r pb tx Gx wx w.heap.size → ZRow w0 b c r pb tx Gx wx w.heap.size us S → ZRow w0 b c r pb tx Gx wx w.heap.size up P → R.v = .agg #[.int .i64 (if err = 0 then top else 0), us, up] → RVar wx w.heap.size R0 → us.ownBlock ≠ some w.heap.size → up.ownBlock ≠ some w.heap.size →
      Hid (∀ wy, Below (rput wx w.heap.size R).heap.size (rput wx w.heap.size R) wy → EvW w0 b c r pb po t G w (RInit w0 b c r pb w.heap.size top) o (.returned (.tuple #[R.v, .int .i64 err])) wy ∧ (loadVar 33 ⟨w.heap.size, 0, none⟩).run Tryd.prog wy = .ok R.v wy) := by
    intro tx Gx wx mx sx S P err us up R R0 ho ha hl hs hp eR hv h1 h2 wy hb
    have hbut := rput_but wx w.heap.size R
    have hz : ∀ {u : Value} {l : List Int}, ZRow w0 b c r pb tx Gx wx w.heap.size u l → u.ownBlock ≠ some w.heap.size → ZRow w0 b c r pb tx Gx wy w.heap.size u l := fun {u l} h hne =>
      ZRow.later ⟨h.own.of fun k hk => hbut.block k (h.own.lt k hk).2 (fun e => hne (by rw [← e]; exact hk)), fun k hk => (h.loc k hk).same hbut.size⟩ hb
    exact ⟨EvW.ret ho ⟨us, up, by rw [eR], hz hs h1, hz hp h2⟩ ((ha.aside hbut hl (Nat.le_refl _)).later hb), ((hv.put R).later hb).loadVar⟩
  by_cases hbad : cl < 1 ∨ 64 < cl ∨ sn < 0 ∨ 64 < sn
  · have hrun := HRun.out
    rw [if_pos hbad] at hrun
    have HE : Hid (EvW w0 b c r pb po t G w (RInit w0 b c r pb w.heap.size top) o (.returned (.tuple #[(Rg.mk 0 none 0 0 none 0 0).v, .int .i64 10])) (w.alloc (.cells #[.int .i64 0, .slice none 0 0, .slice none 0 0] 33)) ∧ (loadVar 33 ⟨w.heap.size, 0, none⟩).run Tryd.prog (w.alloc (.cells #[.int .i64 0, .slice none 0 0, .slice none 0 0] 33)) = .ok (Rg.mk 0 none 0 0 none 0 0).v (w.alloc (.cells #[.int .i64 0, .slice none 0 0, .slice none 0 0] 33))) :=
      ⟨EvW.ret (a := ([], [], 10)) (by rw [hrun]; simp only [Pr.run]) ⟨.slice none 0 0, .slice none 0 0, rfl, ZRow.nil, ZRow.nil⟩ HA.out, HV.out.loadVar⟩
    have hmk := mk33_0
    clear fin hrun HA HRun HLo HC
    obtain ⟨c0, c1, c2⟩ := HV.out.cells
    have fz := HV.out.fz
    simp only [Rg.v] at hmk c0 c1 c2
    have hcase : cl < 1 ∨ (1 ≤ cl ∧ 64 < cl) ∨ (1 ≤ cl ∧ cl ≤ 64 ∧ sn < 0) ∨ (1 ≤ cl ∧ cl ≤ 64 ∧ 0 ≤ sn ∧ 64 < sn) := by omega
    clear hbad
    rcases hcase with h1 | ⟨h1, h2⟩ | ⟨h1, h2, h3⟩ | ⟨h1, h2, h3, h4⟩
    all_goals
      go_enter Tryd.func11, Tryd.ntmps11
      go_wp2_with fail
      exact bodyPost_ret (results_cell2 (.int .i64 10) Tryd.results11 rfl rfl HE.out.2) rfl HE.out.1
  · have hrun := HRun.out
    rw [if_neg hbad] at hrun
    replace HRun := Lib.hid hrun
    obtain ⟨n1, rfl⟩ : ∃ n1 : Nat, cl = (n1 : Int) := ⟨cl.toNat, by omega⟩
    obtain ⟨n2, rfl⟩ : ∃ n2 : Nat, sn = (n2 : Int) := ⟨sn.toNat, by omega⟩
    simp only [Int.toNat_natCast] at hrun
    replace HRun := Lib.hid hrun
    have i1 : 1 ≤ (n1 : Int) := by omega
    have i2 : (n1 : Int) ≤ 64 := by omega
    have i3 : (n2 : Int) ≤ 64 := by omega
    have hmk := mk33_0
    have hz := zeros_E HA.out.sys HT.out (by have := HC.out; omega) n1 (by omega)
    obtain ⟨c0, c1, c2⟩ := HV.out.cells
    have fz := HV.out.fz
    simp only [Rg.v] at hmk c0 c1 c2
    have FIN := Lib.hid fin
    clear hrun hbad fin
    go_enter Tryd.func11, Tryd.ntmps11
    go_wp2_with fail
    refine hz.mono ?_
    rintro e w1 hE
    rcases hE.cases with ⟨t1, G1, s1, m1, ho, rfl, ha⟩ | ⟨t1, G1, s1, m1, ⟨S, err⟩, v, ho, rfl, ⟨us, rfl, hzr⟩, ha⟩
    · have HE : Hid (EvW w0 b c r pb po t G w (RInit w0 b c r pb w.heap.size top) o (Halt pb po) w1) := EvW.die (by rw [HRun.out, Pr.bind_none ho]) (HA.out.trans ha)
      clear hz hE ho ha
      unfold Halt
      go_wp2
      exact ⟨rfl, HE.out⟩
    have hrun := HRun.out.trans (Pr.bind_some ho)
    try dsimp only at hrun
    have hct := (zerosP_le _ _).out ho
    have hlS : S.length ≤ 64 := by have := (zerosP_all n1 []).run ho; simp at this; omega
    obtain ⟨ua, uc, eu, hrow⟩ := hzr.row
    simp only at eu hrow hzr
    have HZ := Lib.hid (hzr.low (B' := w.heap.size) (by simp))
    obtain ⟨hv, hl⟩ := ha.rcells HLo.out HV.out
    replace HV := Lib.hid hv
    replace HLo := Lib.hid hl
    replace HA := Lib.hid (HA.out.trans ha)
    have HC1 : Hid (m1.count ≤ 600200) := by have := HC.out; unfold Hid; simp at hct; omega
    have hne : us.ownBlock ≠ some w.heap.size := fun e => by have := (hzr.own.lt _ e).1; simp at this; omega
    have HNe := Lib.hid hne
    clear hz hE ho ha hct hv hl c0 c1 c2 fz hzr hne HC
    subst eu
    obtain ⟨c0, c1, c2⟩ := HV.out.cells
    have fz := HV.out.fz
    simp only at c0 c1 c2
    by_cases herr : err = 0
    · subst herr
      rw [if_pos rfl] at hrun
      replace HRun := Lib.hid hrun
      have hz := zeros_E HA.out.sys HT.out (by have := HC1.out; omega) n2 (by omega)
      have HRow := Lib.hid hrow
      have HLS := Lib.hid hlS
      clear hrun hrow hlS
      go_wp2_with fail
      refine hz.mono ?_
      rintro e w2 hE
      rcases hE.cases with ⟨t2, G2, s2, m2, ho, rfl, ha⟩ | ⟨t2, G2, s2, m2, ⟨P, err⟩, v, ho, rfl, ⟨up, rfl, hzp⟩, ha⟩
      · have HE : Hid (EvW w0 b c r pb po t G w (RInit w0 b c r pb w.heap.size top) o (Halt pb po) w2) := EvW.die (by rw [HRun.out, Pr.bind_none ho]) (HA.out.trans ha)
        clear hz hE ho ha
        unfold Halt
        go_wp2
        exact ⟨rfl, HE.out⟩
      have hrun := HRun.out.trans (Pr.bind_some ho)
      try dsimp only at hrun
      have hct := (zerosP_le _ _).out ho
      obtain ⟨pa, pc, ep, -⟩ := hzp.row
      simp only at ep hzp
      have hsz : w.heap.size < w1.heap.size := HLo.out.lt
      have hnp : up.ownBlock ≠ some w.heap.size := fun e => by have := (hzp.own.lt _ e).1; omega
      have hzp2 := hzp.low (B' := w.heap.size) (by omega)
      have HZP := Lib.hid hzp2
      have HNp := Lib.hid hnp
      obtain ⟨hv, hl⟩ := ha.rcells HLo.out HV.out
      replace HV := Lib.hid hv
      replace HLo := Lib.hid hl
      replace HZ := Lib.hid (HZ.out.aft ha)
      replace HRow := Lib.hid (HRow.out.aft ha)
      replace HA := Lib.hid (HA.out.trans ha)
      have HC2 : Hid (m2.count ≤ 600400) := by have := HC1.out; unfold Hid; simp at hct; omega
      clear hz hE ho ha hct hv hl c0 c1 c2 fz hzp hzp2 hnp hsz HC1
      subst ep
      obtain ⟨c0, c1, c2⟩ := HV.out.cells
      have fz := HV.out.fz
      simp only at c0 c1 c2
      by_cases herr : err = 0
      · subst herr
        rw [if_pos rfl] at hrun
        have HE := FIN.out t2 G2 w2 m2 s2 S P 0 (.slice ua S.length uc) (.slice pa P.length pc) (Rg.mk top ua S.length uc pa P.length pc) (Rg.mk 0 none 0 0 none 0 0) (by rw [hrun]; simp only [Pr.run]) HA.out HLo.out HZ.out HZP.out (by rw [if_pos rfl]; rfl) HV.out HNe.out HNp.out
        clear FIN hrun
        go_wp2_with fail
        exact bodyPost_ret (results_cell2 (.int .i64 0) Tryd.results11 rfl rfl (HE.out _ (Below.refl _ _)).2) rfl (HE.out _ (Below.refl _ _)).1
      · rw [if_neg herr] at hrun
        replace HRun := Lib.hid hrun
        have hf := free_E HA.out.sys (by have := HC2.out; omega) ua uc S HLS.out HRow.out
        clear hrun
        go_wp2_with fail
        refine hf.mono ?_
        rintro e w3 hE
        rcases hE.cases with ⟨t3, G3, s3, m3, ho, rfl, ha⟩ | ⟨t3, G3, s3, m3, x, v, ho, rfl, rfl, ha⟩
        · have HE : Hid (EvW w0 b c r pb po t G w (RInit w0 b c r pb w.heap.size top) o (Halt pb po) w3) := EvW.die (by rw [HRun.out, Pr.bind_none ho]) (HA.out.trans ha)
          clear hf hE ho ha
          unfold Halt
          go_wp2
          exact ⟨rfl, HE.out⟩
        have hrun := HRun.out.trans (Pr.bind_some ho)
        try dsimp only at hrun
        obtain ⟨hv, hl⟩ := ha.rcells HLo.out HV.out
        replace HV := Lib.hid hv
        have HE := FIN.out t3 G3 w3 m3 s3 [] [] err (.slice none 0 0) (.slice none 0 0) (Rg.mk 0 none 0 0 none 0 0) (Rg.mk 0 none 0 0 none 0 0) (by rw [hrun]; simp only [Pr.run]) (HA.out.trans ha) hl ZRow.nil ZRow.nil (by rw [if_neg herr]; rfl) hv (by intro e; cases e) (by intro e; cases e)
        clear hf hE ho ha hv hl FIN hrun c0 c1 c2 fz
        obtain ⟨c0, c1, c2⟩ := HV.out.cells
        have fz := HV.out.fz
        simp only at c0 c1 c2
        go_wp2_with fail
        exact bodyPost_ret (results_cell2 (.int .i64 err) Tryd.results11 rfl rfl (HE.out _ (Below.refl _ _)).2) rfl (HE.out _ (Below.refl _ _)).1
    · rw [if_neg herr] at hrun
      have HE := FIN.out t1 G1 w1 m1 s1 [] [] err (.slice none 0 0) (.slice none 0 0) (Rg.mk 0 none 0 0 none 0 0) (Rg.mk 0 none 0 0 none 0 0) (by rw [hrun]; simp only [Pr.run]) HA.out HLo.out ZRow.nil ZRow.nil (by rw [if_neg herr]; rfl) HV.out (by intro e; cases e) (by intro e; cases e)
      clear FIN hrun
      go_wp2_with fail
      exact bodyPost_ret (results_cell2 (.int .i64 err) Tryd.results11 rfl rfl (HE.out _ (Below.refl _ _)).2) rfl (HE.out _ (Below.refl _ _)).1
end
end Go.Proofs.YtgjkkbgdkdipgaaDoor
