/- What RegKeeps' closures come to, by a port. Conditions: at most 600000 asks; at most 64 clients and places. -/
import Derived.Test.YtgjkkbgdkdipgaaDoorKq
namespace Go.Proofs.YtgjkkbgdkdipgaaDoor
open Go.RowKit Go.Op
set_option maxRecDepth 100000

theorem mkb3 (x : Value) (w : World) : (Instr.makeInterface 3 x).run Tryd.prog w = .ok (.iface 3 x) w := run_makeInterface w 3 x (by kernel_rfl)
theorem mkb25 (x : Value) (w : World) : (Instr.makeInterface 25 x).run Tryd.prog w = .ok (.iface 25 x) w := run_makeInterface w 25 x (by kernel_rfl)
theorem enterP_le (top k : Int) (S : List Int) : (enterP top k S).Le 5 := by
  unfold enterP
  split
  · refine .ask 4 _ _ fun a => ?_
    split
    · refine ((versionP_le top).bind (m := 1) fun x => ?_).more (by omega)
      split
      · refine .ask 0 _ _ fun y => ?_
        split <;> exact .ret _ _
      · exact .ret _ _
    · exact .ret _ _
  · exact .ret _ _
theorem openP_le (v : Int) (P : List Int) : (openP v P).Le (2 * P.length) := by
  unfold openP
  split
  · exact openL_le v P 0
  · exact .ret _ _
theorem holdP_le (k v : Int) (S : List Int) : (holdP k v S).Le 1 := by
  unfold holdP
  split
  · exact .ask 0 _ _ fun _ => .ret _ _
  · exact .ret _ _
theorem leaveP_le (k : Int) (S : List Int) : (leaveP k S).Le 1 := by
  unfold leaveP
  split
  · exact .ask 0 _ _ fun _ => .ret _ _
  · exact .ret _ _
theorem findVP_le (id : Int) (P : List Int) : (findVP id P).Le 1 := ((findP_le id P).bind (m := 0) fun x => by split <;> exact .ret _ _).more (by omega)
theorem leastP_le (top k : Int) (S P : List Int) : (leastP top k S P).Le (3 + S.length + P.length + S.length) := by
  unfold leastP
  refine ((versionP_le top).bind (m := S.length + P.length + S.length) fun x => ?_).more (by omega)
  split
  · refine ((slotsP_le _ _ _ _).bind (m := P.length + S.length) fun y => ?_).more (by omega)
    split
    · refine ((snapsP_le _ _).bind (m := S.length) fun z => ?_).more (by omega)
      split
      · exact slotsP_le _ _ _ _
      · exact .ret _ _
    · exact .ret _ _
  · exact .ret _ _
theorem closeP_le (id : Int) (P : List Int) : (closeP id P).Le 2 := by
  unfold closeP
  refine ((findP_le id P).bind (m := 1) fun x => ?_).more (by omega)
  split
  · refine .ask 0 _ _ fun y => ?_
    split <;> exact .ret _ _
  · exact .ret _ _
section
variable {w0 : World} {b c r pb po : Nat} {t t1 : Value} {G G1 : List (Nat × List Sw)} {w w1 w2 : World} {m m1 : M} {s s1 : Pt} {R : Rg} {S P : List Int} {zy zi : Nat}
theorem Pr.live {α : Type} {p : Pr α} {a : α} (h : p.run s m = (some a, s1, m1)) (hs : s.halted = false) : s1.halted = false := by
  have := (Pr.run_facts p s m).live (by rw [h]; rfl)
  rw [h] at this
  exact this.trans hs
theorem ask_live {q : Qn} {a : An} (h : s.ask q m = (some a, s1, m1)) (hs : s.halted = false) : s1.halted = false := by
  have := (ask_facts s q m).2 (by rw [h]; rfl)
  rw [h] at this
  exact this.trans hs
theorem note_E (h : SysE w0 b c r pb po t G w m s) (hs : s.halted = false) (n : Int) : Calls Tryd.prog 21 #[.pointer (some ⟨pb, po, none⟩), .int .i64 n] w fun e w' => e = .returned (.tuple #[]) ∧ Aft w0 b c r pb po t G w t G w' m { s with noted := n } := by
  obtain ⟨m0, s0, hS, i1, i2, hf, rfl, rfl⟩ := h
  refine (note_any hS.pt hs n).mono ?_
  rintro e w' ⟨rfl, hp, hb⟩
  exact ⟨rfl, ⟨m0, { s0 with noted := n }, hS.port hp hb, i1, i2, ⟨hf.ok, hf.le, hf.len⟩, rfl, rfl⟩, But5.of1 hb, Row2.refl _ _, Grow.refl _ _⟩
/-- A yard beside a port. -/
structure Yd (w0 : World) (b c r pb : Nat) (t : Value) (G : List (Nat × List Sw)) (w : World) (zy : Nat) (R : Rg) (S P : List Int) : Prop where
  y : YVar w zy b R
  l : Loc w0 b c r pb t G w zy
  rg : RgAt w0 b c r pb t G w R S P
theorem Yd.aft (h : Yd w0 b c r pb t G w zy R S P) (ha : Aft w0 b c r pb po t G w t1 G1 w1 m1 s1) : Yd w0 b c r pb t1 G1 w1 zy R S P :=
  ⟨h.y.same (h.l.aft ha).2, (h.l.aft ha).1, h.rg.aft ha⟩
/-- A number beside a port. -/
structure Nd (w0 : World) (b c r pb : Nat) (t : Value) (G : List (Nat × List Sw)) (w : World) (zi : Nat) (id : Int) : Prop where
  cl : w.cell? ⟨zi, 0, none⟩ = some (.int .i64 id)
  l : Loc w0 b c r pb t G w zi
theorem Nd.aft {id : Int} (h : Nd w0 b c r pb t G w zi id) (ha : Aft w0 b c r pb po t G w t1 G1 w1 m1 s1) : Nd w0 b c r pb t1 G1 w1 zi id :=
  ⟨(World.cell?_of_block (w := w) (a := ⟨zi, 0, none⟩) (h.l.aft ha).2).trans h.cl, (h.l.aft ha).1⟩
def RIf3 (_ : List (Nat × List Sw)) (a : Int) (v : Value) : Prop := v = .iface 3 (.int .i64 a)
def RIf25 (_ : List (Nat × List Sw)) (a : Int) (v : Value) : Prop := v = .iface 25 (.int .i64 a)
def opK (top : Int) (S P : List Int) : Pn Int := (enterP top 0 S).then fun x => (openP x.1 P).then fun y => .note (wrap64 (1 + x.1)) ((leaveP 0 S).then fun _ => .ret y.1)
def hoK (top : Int) (S P : List Int) (id : Int) : Pn Int := (enterP top 1 S).then fun _ => (findVP id P).then fun x => if x.2 = 0 then (holdP 1 x.1 S).then fun _ => (findVP id P).then fun y => if y.2 = 0 then .note (wrap64 (1 + x.1)) (.ask (.word top) fun _ => .ask (.word top) fun _ => .note 0 ((leaveP 1 S).then fun _ => .ret x.1)) else .ret (-1) else .ret (-1)
def clK (P : List Int) (id : Int) : Pn Int := (closeP id P).then fun x => .ret x
def asK (top : Int) (S P : List Int) : Pn Int := (leastP top 3 S P).then fun x => .ret x.1
set_option maxHeartbeats 2000000 in
theorem clo18 (h : SysE w0 b c r pb po t G w m s) (hs : s.halted = false) (hc : m.count ≤ 600000) (hy : Yd w0 b c r pb t G w zy R S P) :
    Calls Tryd.prog 18 #[.pointer (some ⟨pb, po, none⟩), .pointer (some ⟨zy, 0, none⟩)] w fun e w' => Ev w0 b c r pb po t G w (RIf3) ((opK R.top S P).run s m) e w' := by
  have HS0 := Lib.hid hs
  have HC0 : Hid (m.count ≤ m.count + 0) := by unfold Hid; omega
  have HL := Lib.hid hc
  have HA0 := Lib.hid (Aft.refl h)
  have HY0 := Lib.hid hy
  obtain ⟨oo, hoo⟩ : ∃ o, o = (opK R.top S P).run s m := ⟨_, rfl⟩
  rw [← hoo]
  have HR0 := Lib.hid hoo
  clear hoo
  have mk3 := mkb3
  have mk25 := mkb25
  clear h hs hc hy
  have hl := HY0.out.y.loadR
  obtain ⟨-, y1, y2, y3, -⟩ := HY0.out.y
  unfold Rg.v at hl
  go_enter Tryd.func18, Tryd.ntmps18
  have h1 := enter_E HA0.out.sys (by have := HC0.out; have := HL.out; omega) HY0.out.rg 0
  unfold Rg.v at h1
  go_wp2_with fail
  refine h1.mono ?_
  rintro e w3 hE
  rcases hE.cases with ⟨t', G', s', m', ho, rfl, ha⟩ | ⟨t3, G3, s3, m3, x1, v, ho, rfl, hv, ha⟩
  · have HE : Hid (Ev w0 b c r pb po t G w (RIf3) oo (Halt pb po) w3) := Ev.die (HR0.out.trans (Pr.then_none ho)) (HA0.out.trans ha)
    clear h1 hE ho ha
    unfold Halt
    go_wp2
    exact ⟨rfl, HE.out⟩
  replace hv : v = .tuple #[.int .i64 x1.1, .int .i64 x1.2] := hv
  subst hv
  have HR1 : Hid (oo = ((openP x1.1 P).then fun y => .note (wrap64 (1 + x1.1)) ((leaveP 0 S).then fun _ => .ret y.1) : Pn Int).run s3 m3) := Lib.hid (HR0.out.trans (Pr.then_some ho))
  have HA1 := Lib.hid (HA0.out.trans ha)
  have HY1 := Lib.hid (HY0.out.aft ha)
  have HS1 := Lib.hid (Pr.live ho HS0.out)
  have HC1 : Hid (m3.count ≤ m.count + 5) := by have h1 := (enterP_le R.top 0 S).out ho; have h2 := HC0.out; have h3 := HY0.out.rg.sf; have h4 := HY0.out.rg.pf; unfold Hid; omega
  clear h1 hE ho ha hl y1 y2 y3
  have hl := HY1.out.y.loadR
  obtain ⟨-, y1, y2, y3, -⟩ := HY1.out.y
  unfold Rg.v at hl
  have h2 := open_E HA1.out.sys (by have := HC1.out; have := HL.out; omega) HY1.out.rg x1.1
  unfold Rg.v at h2
  go_wp2_with fail
  refine h2.mono ?_
  rintro e w4 hE
  rcases hE.cases with ⟨t', G', s', m', ho, rfl, ha⟩ | ⟨t4, G4, s4, m4, x2, v, ho, rfl, hv, ha⟩
  · have HE : Hid (Ev w0 b c r pb po t G w (RIf3) oo (Halt pb po) w4) := Ev.die (HR1.out.trans (Pr.then_none ho)) (HA1.out.trans ha)
    clear h2 hE ho ha
    unfold Halt
    go_wp2
    exact ⟨rfl, HE.out⟩
  replace hv : v = .tuple #[.int .i64 x2.1, .int .i64 x2.2] := hv
  subst hv
  have HR2 : Hid (oo = (.note (wrap64 (1 + x1.1)) ((leaveP 0 S).then fun _ => .ret x2.1) : Pn Int).run s4 m4) := Lib.hid (HR1.out.trans (Pr.then_some ho))
  have HA2 := Lib.hid (HA1.out.trans ha)
  have HY2 := Lib.hid (HY1.out.aft ha)
  have HS2 := Lib.hid (Pr.live ho HS1.out)
  have HC2 : Hid (m4.count ≤ m.count + 133) := by have h1 := (openP_le x1.1 P).out ho; have h2 := HC1.out; have h3 := HY1.out.rg.sf; have h4 := HY1.out.rg.pf; unfold Hid; omega
  clear h2 hE ho ha hl y1 y2 y3
  have hl := HY2.out.y.loadR
  obtain ⟨-, y1, y2, y3, -⟩ := HY2.out.y
  unfold Rg.v at hl
  have h3 := note_E HA2.out.sys HS2.out (wrap64 (1 + x1.1))
  go_wp2_with fail
  refine h3.mono ?_
  rintro e w5 ⟨rfl, ha⟩
  have HR3 : Hid (oo = ((leaveP 0 S).then fun _ => .ret x2.1 : Pn Int).run _ _) := Lib.hid (HR2.out.trans (Pn.run_note _ _ _ _))
  have HA3 := Lib.hid (HA2.out.trans ha)
  have HY3 := Lib.hid (HY2.out.aft ha)
  have HS3 := HS2
  have HC3 := HC2
  clear h3 ha hl y1 y2 y3
  have hl := HY3.out.y.loadR
  obtain ⟨-, y1, y2, y3, -⟩ := HY3.out.y
  unfold Rg.v at hl
  have h4 := leave_E HA3.out.sys (by have := HC3.out; have := HL.out; omega) HY3.out.rg 0
  unfold Rg.v at h4
  go_wp2_with fail
  refine h4.mono ?_
  rintro e w6 hE
  rcases hE.cases with ⟨t', G', s', m', ho, rfl, ha⟩ | ⟨t6, G6, s6, m6, x4, v, ho, rfl, hv, ha⟩
  · have HE : Hid (Ev w0 b c r pb po t G w (RIf3) oo (Halt pb po) w6) := Ev.die (HR3.out.trans (Pr.then_none ho)) (HA3.out.trans ha)
    clear h4 hE ho ha
    unfold Halt
    go_wp2
    exact ⟨rfl, HE.out⟩
  replace hv : v = .int .i64 x4 := hv
  subst hv
  have HR4 : Hid (oo = (.ret x2.1 : Pn Int).run s6 m6) := Lib.hid (HR3.out.trans (Pr.then_some ho))
  have HA4 := Lib.hid (HA3.out.trans ha)
  have HY4 := Lib.hid (HY3.out.aft ha)
  have HS4 := Lib.hid (Pr.live ho HS3.out)
  have HC4 : Hid (m6.count ≤ m.count + 134) := by have h1 := (leaveP_le 0 S).out ho; have h2 := HC3.out; have h3 := HY3.out.rg.sf; have h4 := HY3.out.rg.pf; unfold Hid; omega
  clear h4 hE ho ha hl y1 y2 y3
  have hl := HY4.out.y.loadR
  obtain ⟨-, y1, y2, y3, -⟩ := HY4.out.y
  unfold Rg.v at hl
  have HE : Hid (Ev w0 b c r pb po t G w (RIf3) oo (.returned (.iface 3 (.int .i64 (x2.1)))) w6) := Ev.ret (HR4.out.trans rfl) rfl HA4.out
  go_wp2_with fail
  go_ret
  exact HE.out
set_option maxHeartbeats 2000000 in
theorem clo28 (h : SysE w0 b c r pb po t G w m s) (hs : s.halted = false) (hc : m.count ≤ 600000) (hy : Yd w0 b c r pb t G w zy R S P) :
    Calls Tryd.prog 28 #[.pointer (some ⟨pb, po, none⟩), .pointer (some ⟨zy, 0, none⟩)] w fun e w' => Ev w0 b c r pb po t G w (RIf3) ((asK R.top S P).run s m) e w' := by
  have HS0 := Lib.hid hs
  have HC0 : Hid (m.count ≤ m.count + 0) := by unfold Hid; omega
  have HL := Lib.hid hc
  have HA0 := Lib.hid (Aft.refl h)
  have HY0 := Lib.hid hy
  obtain ⟨oo, hoo⟩ : ∃ o, o = (asK R.top S P).run s m := ⟨_, rfl⟩
  rw [← hoo]
  have HR0 := Lib.hid hoo
  clear hoo
  have mk3 := mkb3
  have mk25 := mkb25
  clear h hs hc hy
  have hl := HY0.out.y.loadR
  obtain ⟨-, y1, y2, y3, -⟩ := HY0.out.y
  unfold Rg.v at hl
  go_enter Tryd.func28, Tryd.ntmps28
  have h1 := least_E HA0.out.sys (by have := HC0.out; have := HL.out; omega) HY0.out.rg 3
  unfold Rg.v at h1
  go_wp2_with fail
  refine h1.mono ?_
  rintro e w3 hE
  rcases hE.cases with ⟨t', G', s', m', ho, rfl, ha⟩ | ⟨t3, G3, s3, m3, x1, v, ho, rfl, hv, ha⟩
  · have HE : Hid (Ev w0 b c r pb po t G w (RIf3) oo (Halt pb po) w3) := Ev.die (HR0.out.trans (Pr.then_none ho)) (HA0.out.trans ha)
    clear h1 hE ho ha
    unfold Halt
    go_wp2
    exact ⟨rfl, HE.out⟩
  replace hv : v = .tuple #[.int .i64 x1.1, .int .i64 x1.2] := hv
  subst hv
  have HR1 : Hid (oo = (.ret x1.1 : Pn Int).run s3 m3) := Lib.hid (HR0.out.trans (Pr.then_some ho))
  have HA1 := Lib.hid (HA0.out.trans ha)
  have HY1 := Lib.hid (HY0.out.aft ha)
  have HS1 := Lib.hid (Pr.live ho HS0.out)
  have HC1 : Hid (m3.count ≤ m.count + 200) := by have h1 := (leastP_le R.top 3 S P).out ho; have h2 := HC0.out; have h3 := HY0.out.rg.sf; have h4 := HY0.out.rg.pf; unfold Hid; omega
  clear h1 hE ho ha hl y1 y2 y3
  have hl := HY1.out.y.loadR
  obtain ⟨-, y1, y2, y3, -⟩ := HY1.out.y
  unfold Rg.v at hl
  have HE : Hid (Ev w0 b c r pb po t G w (RIf3) oo (.returned (.iface 3 (.int .i64 (x1.1)))) w3) := Ev.ret (HR1.out.trans rfl) rfl HA1.out
  go_wp2_with fail
  go_ret
  exact HE.out
set_option maxHeartbeats 2000000 in
theorem clo26 (h : SysE w0 b c r pb po t G w m s) (hs : s.halted = false) (hc : m.count ≤ 600000) (hy : Yd w0 b c r pb t G w zy R S P) {id : Int} (hid : id < 9223372036854775808) (hn : Nd w0 b c r pb t G w zi id) :
    Calls Tryd.prog 26 #[.pointer (some ⟨pb, po, none⟩), .pointer (some ⟨zy, 0, none⟩), .pointer (some ⟨zi, 0, none⟩)] w fun e w' => Ev w0 b c r pb po t G w (RIf25) ((clK P id).run s m) e w' := by
  have HS0 := Lib.hid hs
  have HC0 : Hid (m.count ≤ m.count + 0) := by unfold Hid; omega
  have HL := Lib.hid hc
  have HA0 := Lib.hid (Aft.refl h)
  have HY0 := Lib.hid hy
  have HN0 := Lib.hid hn
  obtain ⟨oo, hoo⟩ : ∃ o, o = (clK P id).run s m := ⟨_, rfl⟩
  rw [← hoo]
  have HR0 := Lib.hid hoo
  clear hoo
  have mk3 := mkb3
  have mk25 := mkb25
  clear h hs hc hy hn
  have hl := HY0.out.y.loadR
  obtain ⟨-, y1, y2, y3, -⟩ := HY0.out.y
  unfold Rg.v at hl
  have ni := HN0.out.cl
  go_enter Tryd.func26, Tryd.ntmps26
  have h1 := close_E HA0.out.sys (by have := HC0.out; have := HL.out; omega) HY0.out.rg id hid
  unfold Rg.v at h1
  go_wp2_with fail
  refine h1.mono ?_
  rintro e w3 hE
  rcases hE.cases with ⟨t', G', s', m', ho, rfl, ha⟩ | ⟨t3, G3, s3, m3, x1, v, ho, rfl, hv, ha⟩
  · have HE : Hid (Ev w0 b c r pb po t G w (RIf25) oo (Halt pb po) w3) := Ev.die (HR0.out.trans (Pr.then_none ho)) (HA0.out.trans ha)
    clear h1 hE ho ha
    unfold Halt
    go_wp2
    exact ⟨rfl, HE.out⟩
  replace hv : v = .int .i64 x1 := hv
  subst hv
  have HR1 : Hid (oo = (.ret x1 : Pn Int).run s3 m3) := Lib.hid (HR0.out.trans (Pr.then_some ho))
  have HA1 := Lib.hid (HA0.out.trans ha)
  have HY1 := Lib.hid (HY0.out.aft ha)
  have HS1 := Lib.hid (Pr.live ho HS0.out)
  have HC1 : Hid (m3.count ≤ m.count + 2) := by have h1 := (closeP_le id P).out ho; have h2 := HC0.out; have h3 := HY0.out.rg.sf; have h4 := HY0.out.rg.pf; unfold Hid; omega
  have HN1 := Lib.hid (HN0.out.aft ha)
  clear h1 hE ho ha ni hl y1 y2 y3
  have hl := HY1.out.y.loadR
  obtain ⟨-, y1, y2, y3, -⟩ := HY1.out.y
  unfold Rg.v at hl
  have ni := HN1.out.cl
  have HE : Hid (Ev w0 b c r pb po t G w (RIf25) oo (.returned (.iface 25 (.int .i64 (x1)))) w3) := Ev.ret (HR1.out.trans rfl) rfl HA1.out
  go_wp2_with fail
  go_ret
  exact HE.out
set_option maxHeartbeats 2000000 in
theorem clo66 (h : SysE w0 b c r pb po t G w m s) (hs : s.halted = false) (hc : m.count ≤ 600000) (hy : Yd w0 b c r pb t G w zy R S P) {id : Int} (hid : id < 9223372036854775808) (hn : Nd w0 b c r pb t G w zi id) :
    Calls Tryd.prog 66 #[.pointer (some ⟨pb, po, none⟩), .pointer (some ⟨zy, 0, none⟩), .pointer (some ⟨zi, 0, none⟩)] w fun e w' => Ev w0 b c r pb po t G w (RIf3) ((hoK R.top S P id).run s m) e w' := by
  have HS0 := Lib.hid hs
  have HC0 : Hid (m.count ≤ m.count + 0) := by unfold Hid; omega
  have HL := Lib.hid hc
  have HA0 := Lib.hid (Aft.refl h)
  have HY0 := Lib.hid hy
  have HN0 := Lib.hid hn
  obtain ⟨oo, hoo⟩ : ∃ o, o = (hoK R.top S P id).run s m := ⟨_, rfl⟩
  rw [← hoo]
  have HR0 := Lib.hid hoo
  clear hoo
  have mk3 := mkb3
  have mk25 := mkb25
  clear h hs hc hy hn
  have hl := HY0.out.y.loadR
  obtain ⟨-, y1, y2, y3, -⟩ := HY0.out.y
  unfold Rg.v at hl
  have ni := HN0.out.cl
  go_enter Tryd.func66, Tryd.ntmps66
  have h1 := enter_E HA0.out.sys (by have := HC0.out; have := HL.out; omega) HY0.out.rg 1
  unfold Rg.v at h1
  go_wp2_with fail
  refine h1.mono ?_
  rintro e w3 hE
  rcases hE.cases with ⟨t', G', s', m', ho, rfl, ha⟩ | ⟨t3, G3, s3, m3, x1, v, ho, rfl, hv, ha⟩
  · have HE : Hid (Ev w0 b c r pb po t G w (RIf3) oo (Halt pb po) w3) := Ev.die (HR0.out.trans (Pr.then_none ho)) (HA0.out.trans ha)
    clear h1 hE ho ha
    unfold Halt
    go_wp2
    exact ⟨rfl, HE.out⟩
  replace hv : v = .tuple #[.int .i64 x1.1, .int .i64 x1.2] := hv
  subst hv
  have HR1 : Hid (oo = ((findVP id P).then fun x => if x.2 = 0 then (holdP 1 x.1 S).then fun _ => (findVP id P).then fun y => if y.2 = 0 then .note (wrap64 (1 + x.1)) (.ask (.word R.top) fun _ => .ask (.word R.top) fun _ => .note 0 ((leaveP 1 S).then fun _ => .ret x.1)) else .ret (-1) else .ret (-1) : Pn Int).run s3 m3) := Lib.hid (HR0.out.trans (Pr.then_some ho))
  have HA1 := Lib.hid (HA0.out.trans ha)
  have HY1 := Lib.hid (HY0.out.aft ha)
  have HS1 := Lib.hid (Pr.live ho HS0.out)
  have HC1 : Hid (m3.count ≤ m.count + 5) := by have h1 := (enterP_le R.top 1 S).out ho; have h2 := HC0.out; have h3 := HY0.out.rg.sf; have h4 := HY0.out.rg.pf; unfold Hid; omega
  have HN1 := Lib.hid (HN0.out.aft ha)
  clear h1 hE ho ha ni hl y1 y2 y3
  have hl := HY1.out.y.loadR
  obtain ⟨-, y1, y2, y3, -⟩ := HY1.out.y
  unfold Rg.v at hl
  have ni := HN1.out.cl
  have h2 := findv_E HA1.out.sys (by have := HC1.out; have := HL.out; omega) HY1.out.rg id hid
  unfold Rg.v at h2
  go_wp2_with fail
  refine h2.mono ?_
  rintro e w4 hE
  rcases hE.cases with ⟨t', G', s', m', ho, rfl, ha⟩ | ⟨t4, G4, s4, m4, x2, v, ho, rfl, hv, ha⟩
  · have HE : Hid (Ev w0 b c r pb po t G w (RIf3) oo (Halt pb po) w4) := Ev.die (HR1.out.trans (Pr.then_none ho)) (HA1.out.trans ha)
    clear h2 hE ho ha
    unfold Halt
    go_wp2
    exact ⟨rfl, HE.out⟩
  replace hv : v = .tuple #[.int .i64 x2.1, .int .i64 x2.2] := hv
  subst hv
  have HR2 : Hid (oo = (if x2.2 = 0 then (holdP 1 x2.1 S).then fun _ => (findVP id P).then fun y => if y.2 = 0 then .note (wrap64 (1 + x2.1)) (.ask (.word R.top) fun _ => .ask (.word R.top) fun _ => .note 0 ((leaveP 1 S).then fun _ => .ret x2.1)) else .ret (-1) else .ret (-1) : Pn Int).run s4 m4) := Lib.hid (HR1.out.trans (Pr.then_some ho))
  have HA2 := Lib.hid (HA1.out.trans ha)
  have HY2 := Lib.hid (HY1.out.aft ha)
  have HS2 := Lib.hid (Pr.live ho HS1.out)
  have HC2 : Hid (m4.count ≤ m.count + 6) := by have h1 := (findVP_le id P).out ho; have h2 := HC1.out; have h3 := HY1.out.rg.sf; have h4 := HY1.out.rg.pf; unfold Hid; omega
  have HN2 := Lib.hid (HN1.out.aft ha)
  clear h2 hE ho ha ni hl y1 y2 y3
  have hl := HY2.out.y.loadR
  obtain ⟨-, y1, y2, y3, -⟩ := HY2.out.y
  unfold Rg.v at hl
  have ni := HN2.out.cl
  obtain ⟨u2, f2⟩ := x2
  simp only at HR2
  by_cases hf2 : f2 = 0
  case neg =>
    rw [if_neg hf2] at HR2
    have HE : Hid (Ev w0 b c r pb po t G w (RIf3) oo (.returned (.iface 3 (.int .i64 (-1)))) w4) := Ev.ret (HR2.out.trans rfl) rfl HA2.out
    go_wp2_with fail
    go_ret
    exact HE.out
  rw [if_pos hf2] at HR2
  have HR2 : Hid (oo = ((holdP 1 u2 S).then fun _ => (findVP id P).then fun y => if y.2 = 0 then .note (wrap64 (1 + (u2, f2).1)) (.ask (.word R.top) fun _ => .ask (.word R.top) fun _ => .note 0 ((leaveP 1 S).then fun _ => .ret (u2, f2).1)) else .ret (-1) : Pn Int).run s4 m4) := HR2
  subst hf2
  have h3 := hold_E HA2.out.sys (by have := HC2.out; have := HL.out; omega) HY2.out.rg 1 u2
  unfold Rg.v at h3
  go_wp2_with fail
  refine h3.mono ?_
  rintro e w5 hE
  rcases hE.cases with ⟨t', G', s', m', ho, rfl, ha⟩ | ⟨t5, G5, s5, m5, x3, v, ho, rfl, hv, ha⟩
  · have HE : Hid (Ev w0 b c r pb po t G w (RIf3) oo (Halt pb po) w5) := Ev.die (HR2.out.trans (Pr.then_none ho)) (HA2.out.trans ha)
    clear h3 hE ho ha
    unfold Halt
    go_wp2
    exact ⟨rfl, HE.out⟩
  replace hv : v = .int .i64 x3 := hv
  subst hv
  have HR3 : Hid (oo = ((findVP id P).then fun y => if y.2 = 0 then .note (wrap64 (1 + (u2, (0 : Int)).1)) (.ask (.word R.top) fun _ => .ask (.word R.top) fun _ => .note 0 ((leaveP 1 S).then fun _ => .ret (u2, (0 : Int)).1)) else .ret (-1) : Pn Int).run s5 m5) := Lib.hid (HR2.out.trans (Pr.then_some ho))
  have HA3 := Lib.hid (HA2.out.trans ha)
  have HY3 := Lib.hid (HY2.out.aft ha)
  have HS3 := Lib.hid (Pr.live ho HS2.out)
  have HC3 : Hid (m5.count ≤ m.count + 7) := by have h1 := (holdP_le 1 u2 S).out ho; have h2 := HC2.out; have h3 := HY2.out.rg.sf; have h4 := HY2.out.rg.pf; unfold Hid; omega
  have HN3 := Lib.hid (HN2.out.aft ha)
  clear h3 hE ho ha ni hl y1 y2 y3
  have hl := HY3.out.y.loadR
  obtain ⟨-, y1, y2, y3, -⟩ := HY3.out.y
  unfold Rg.v at hl
  have ni := HN3.out.cl
  have h4 := findv_E HA3.out.sys (by have := HC3.out; have := HL.out; omega) HY3.out.rg id hid
  unfold Rg.v at h4
  go_wp2_with fail
  refine h4.mono ?_
  rintro e w6 hE
  rcases hE.cases with ⟨t', G', s', m', ho, rfl, ha⟩ | ⟨t6, G6, s6, m6, x4, v, ho, rfl, hv, ha⟩
  · have HE : Hid (Ev w0 b c r pb po t G w (RIf3) oo (Halt pb po) w6) := Ev.die (HR3.out.trans (Pr.then_none ho)) (HA3.out.trans ha)
    clear h4 hE ho ha
    unfold Halt
    go_wp2
    exact ⟨rfl, HE.out⟩
  replace hv : v = .tuple #[.int .i64 x4.1, .int .i64 x4.2] := hv
  subst hv
  have HR4 : Hid (oo = (if x4.2 = 0 then .note (wrap64 (1 + (u2, (0 : Int)).1)) (.ask (.word R.top) fun _ => .ask (.word R.top) fun _ => .note 0 ((leaveP 1 S).then fun _ => .ret (u2, (0 : Int)).1)) else .ret (-1) : Pn Int).run s6 m6) := Lib.hid (HR3.out.trans (Pr.then_some ho))
  have HA4 := Lib.hid (HA3.out.trans ha)
  have HY4 := Lib.hid (HY3.out.aft ha)
  have HS4 := Lib.hid (Pr.live ho HS3.out)
  have HC4 : Hid (m6.count ≤ m.count + 8) := by have h1 := (findVP_le id P).out ho; have h2 := HC3.out; have h3 := HY3.out.rg.sf; have h4 := HY3.out.rg.pf; unfold Hid; omega
  have HN4 := Lib.hid (HN3.out.aft ha)
  clear h4 hE ho ha ni hl y1 y2 y3
  have hl := HY4.out.y.loadR
  obtain ⟨-, y1, y2, y3, -⟩ := HY4.out.y
  unfold Rg.v at hl
  have ni := HN4.out.cl
  obtain ⟨u4, f4⟩ := x4
  simp only at HR4
  by_cases hf4 : f4 = 0
  case neg =>
    rw [if_neg hf4] at HR4
    have HE : Hid (Ev w0 b c r pb po t G w (RIf3) oo (.returned (.iface 3 (.int .i64 (-1)))) w6) := Ev.ret (HR4.out.trans rfl) rfl HA4.out
    go_wp2_with fail
    go_ret
    exact HE.out
  rw [if_pos hf4] at HR4
  have HR4 : Hid (oo = (.note (wrap64 (1 + (u2, (0 : Int)).1)) (.ask (.word R.top) fun _ => .ask (.word R.top) fun _ => .note 0 ((leaveP 1 S).then fun _ => .ret (u2, (0 : Int)).1)) : Pn Int).run s6 m6) := HR4
  subst hf4
  have h5 := note_E HA4.out.sys HS4.out (wrap64 (1 + u2))
  go_wp2_with fail
  refine h5.mono ?_
  rintro e w7 ⟨rfl, ha⟩
  have HR5 : Hid (oo = (.ask (.word R.top) fun _ => .ask (.word R.top) fun _ => .note 0 ((leaveP 1 S).then fun _ => .ret u2) : Pn Int).run _ _) := Lib.hid (HR4.out.trans (Pn.run_note _ _ _ _))
  have HA5 := Lib.hid (HA4.out.trans ha)
  have HY5 := Lib.hid (HY4.out.aft ha)
  have HS5 := HS4
  have HC5 := HC4
  have HN5 := Lib.hid (HN4.out.aft ha)
  clear h5 ha ni hl y1 y2 y3
  have hl := HY5.out.y.loadR
  obtain ⟨-, y1, y2, y3, -⟩ := HY5.out.y
  unfold Rg.v at hl
  have ni := HN5.out.cl
  have hcl := pcells_E HA5.out.sys
  go_wp2_with fail
  refine hcl.mono ?_
  rintro e w8 ⟨rfl, rfl⟩
  clear hcl
  have h6 := eword HA5.out.sys (by have := HC5.out; have := HL.out; omega) R.top
  unfold Rg.v at h6
  go_wp2_with fail
  refine h6.mono ?_
  rintro e w8 hE
  rcases hE.cases with ⟨t', G', s', m', ho, rfl, ha⟩ | ⟨t8, G8, s8, m8, x6, v, ho, rfl, hv, ha⟩
  · have HE : Hid (Ev w0 b c r pb po t G w (RIf3) oo (Halt pb po) w8) := Ev.die (HR5.out.trans (Pn.ask_none ho)) (HA5.out.trans ha)
    clear h6 hE ho ha
    unfold Halt
    go_wp2
    exact ⟨rfl, HE.out⟩
  replace hv : v = .tuple #[.int .i64 x6.n, .int .i64 x6.err] := hv
  subst hv
  have HR6 : Hid (oo = (.ask (.word R.top) fun _ => .note 0 ((leaveP 1 S).then fun _ => .ret u2) : Pn Int).run s8 m8) := Lib.hid (HR5.out.trans (Pn.ask_some ho))
  have HA6 := Lib.hid (HA5.out.trans ha)
  have HY6 := Lib.hid (HY5.out.aft ha)
  have HS6 := Lib.hid (ask_live ho HS5.out)
  have HC6 : Hid (m8.count ≤ m.count + 9) := by have h1 := ask_out ho; have h2 := HC5.out; have h3 := HY5.out.rg.sf; have h4 := HY5.out.rg.pf; unfold Hid; omega
  have HN6 := Lib.hid (HN5.out.aft ha)
  clear h6 hE ho ha ni hl y1 y2 y3
  have hl := HY6.out.y.loadR
  obtain ⟨-, y1, y2, y3, -⟩ := HY6.out.y
  unfold Rg.v at hl
  have ni := HN6.out.cl
  have h7 := eword HA6.out.sys (by have := HC6.out; have := HL.out; omega) R.top
  unfold Rg.v at h7
  go_wp2_with fail
  refine h7.mono ?_
  rintro e w9 hE
  rcases hE.cases with ⟨t', G', s', m', ho, rfl, ha⟩ | ⟨t9, G9, s9, m9, x7, v, ho, rfl, hv, ha⟩
  · have HE : Hid (Ev w0 b c r pb po t G w (RIf3) oo (Halt pb po) w9) := Ev.die (HR6.out.trans (Pn.ask_none ho)) (HA6.out.trans ha)
    clear h7 hE ho ha
    unfold Halt
    go_wp2
    exact ⟨rfl, HE.out⟩
  replace hv : v = .tuple #[.int .i64 x7.n, .int .i64 x7.err] := hv
  subst hv
  have HR7 : Hid (oo = (.note 0 ((leaveP 1 S).then fun _ => .ret u2) : Pn Int).run s9 m9) := Lib.hid (HR6.out.trans (Pn.ask_some ho))
  have HA7 := Lib.hid (HA6.out.trans ha)
  have HY7 := Lib.hid (HY6.out.aft ha)
  have HS7 := Lib.hid (ask_live ho HS6.out)
  have HC7 : Hid (m9.count ≤ m.count + 10) := by have h1 := ask_out ho; have h2 := HC6.out; have h3 := HY6.out.rg.sf; have h4 := HY6.out.rg.pf; unfold Hid; omega
  have HN7 := Lib.hid (HN6.out.aft ha)
  clear h7 hE ho ha ni hl y1 y2 y3
  have hl := HY7.out.y.loadR
  obtain ⟨-, y1, y2, y3, -⟩ := HY7.out.y
  unfold Rg.v at hl
  have ni := HN7.out.cl
  have h8 := note_E HA7.out.sys HS7.out 0
  go_wp2_with fail
  refine h8.mono ?_
  rintro e w10 ⟨rfl, ha⟩
  have HR8 : Hid (oo = ((leaveP 1 S).then fun _ => .ret u2 : Pn Int).run _ _) := Lib.hid (HR7.out.trans (Pn.run_note _ _ _ _))
  have HA8 := Lib.hid (HA7.out.trans ha)
  have HY8 := Lib.hid (HY7.out.aft ha)
  have HS8 := HS7
  have HC8 := HC7
  have HN8 := Lib.hid (HN7.out.aft ha)
  clear h8 ha ni hl y1 y2 y3
  have hl := HY8.out.y.loadR
  obtain ⟨-, y1, y2, y3, -⟩ := HY8.out.y
  unfold Rg.v at hl
  have ni := HN8.out.cl
  have h9 := leave_E HA8.out.sys (by have := HC8.out; have := HL.out; omega) HY8.out.rg 1
  unfold Rg.v at h9
  go_wp2_with fail
  refine h9.mono ?_
  rintro e w11 hE
  rcases hE.cases with ⟨t', G', s', m', ho, rfl, ha⟩ | ⟨t11, G11, s11, m11, x9, v, ho, rfl, hv, ha⟩
  · have HE : Hid (Ev w0 b c r pb po t G w (RIf3) oo (Halt pb po) w11) := Ev.die (HR8.out.trans (Pr.then_none ho)) (HA8.out.trans ha)
    clear h9 hE ho ha
    unfold Halt
    go_wp2
    exact ⟨rfl, HE.out⟩
  replace hv : v = .int .i64 x9 := hv
  subst hv
  have HR9 : Hid (oo = (.ret u2 : Pn Int).run s11 m11) := Lib.hid (HR8.out.trans (Pr.then_some ho))
  have HA9 := Lib.hid (HA8.out.trans ha)
  have HY9 := Lib.hid (HY8.out.aft ha)
  have HS9 := Lib.hid (Pr.live ho HS8.out)
  have HC9 : Hid (m11.count ≤ m.count + 11) := by have h1 := (leaveP_le 1 S).out ho; have h2 := HC8.out; have h3 := HY8.out.rg.sf; have h4 := HY8.out.rg.pf; unfold Hid; omega
  have HN9 := Lib.hid (HN8.out.aft ha)
  clear h9 hE ho ha ni hl y1 y2 y3
  have hl := HY9.out.y.loadR
  obtain ⟨-, y1, y2, y3, -⟩ := HY9.out.y
  unfold Rg.v at hl
  have ni := HN9.out.cl
  have HE : Hid (Ev w0 b c r pb po t G w (RIf3) oo (.returned (.iface 3 (.int .i64 (u2)))) w11) := Ev.ret (HR9.out.trans rfl) rfl HA9.out
  go_wp2_with fail
  go_ret
  exact HE.out
end
end Go.Proofs.YtgjkkbgdkdipgaaDoor
