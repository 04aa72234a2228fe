/- What Init and Make come to. Conditions: at most 700000 asks; at most 1000000 swaps; the library's table stands. -/
import Derived.Test.YteiikkkcjpfapaaDoorPrH
namespace Go.Proofs.YteiikkkcjpfapaaDoor
open Go.RowKit Go.Op
set_option maxRecDepth 100000

theorem lay_count (d : Ds) (st : Int) (s : Pt) (m : M) : ((layP d st).run s m).2.2.count ≤ m.count + 3 := by
  rw [layP, Pr.run_ask]
  have h1 := ask_count s (.alloc (.word st)) m
  rcases h : s.ask (.alloc (.word st)) m with ⟨_ | a, s1, m1⟩
  · rw [h] at h1; have := h1.2.1; simp only at this ⊢; omega
  rw [h] at h1
  simp only
  split
  · rw [Pr.run_ask]
    have h2 := ask_count s1 (.alloc (.desc (d.e.at_ a.n))) m1
    rcases h' : s1.ask (.alloc (.desc (d.e.at_ a.n))) m1 with ⟨_ | x, s2, m2⟩
    · rw [h'] at h2; have := h1.2.1; have := h2.2.1; simp only at *; omega
    rw [h'] at h2
    simp only
    split
    · simp only [Pr.run]; have := h1.2.1; have := h2.2.1; simp only at *; omega
    · rw [Pr.run_ask]
      have h3 := ask_count s2 (.free a.n) m2
      rcases h'' : s2.ask (.free a.n) m2 with ⟨_ | y, s3, m3⟩
      · rw [h''] at h3; have := h1.2.1; have := h2.2.1; have := h3.2.1; simp only at *; omega
      · rw [h''] at h3; simp only [Pr.run]; have := h1.2.1; have := h2.2.1; have := h3.2.1; simp only at *; omega
  · simp only [Pr.run]; have := h1.2.1; simp only at *; omega
def initP : Pr (Int × Int) := (layP d0 1).bind fun x => if x.err = 0 then .ask (.alloc (.word x.h)) fun a => if a.err = 0 then .ret (a.n, 0) else .ask (.free x.d.st) fun _ => .ask (.free x.h) fun _ => .ret (0, a.err)
    else .ret (0, x.err)
theorem build0v (w : World) : (Instr.build 52 #[]).run Tryd.prog w = .ok (.agg #[.int .i64 0, .int .i64 0, .int .i64 0, .slice none 0 0]) w := build0 w
section
variable {w0 : World} {b c r pb po : Nat} {t t1 : Value} {G G1 : List (Nat × List Sw)} {w w1 w2 : World} {m m1 : M} {s s1 : Pt}
set_option maxHeartbeats 1000000 in
theorem init_E (h : SysE w0 b c r pb po t G w m s) (hT : TabAt w0) (hc : m.count ≤ 700000) :
    Calls Tryd.prog 45 #[.pointer (some ⟨pb, po, none⟩)] w fun e w' => Ev w0 b c r pb po t G w RInt2 (initP.run s m) e w' := by
  have hl := lay_E h hT (by omega) d0 d0_in 1
  have hct := lay_count d0 1 s m
  unfold Ds.v at hl
  simp only [d0] at hl
  clear h
  go_enter Tryd.func45, Tryd.ntmps45
  go_wp2_with fail
  refine hl.mono ?_
  rintro e w1 hE
  rcases hE.cases with ⟨t1, G1, s1, m1, ho, rfl, ha⟩ | ⟨t1, G1, s1, m1, a, v, ho, rfl, ⟨d, hd, hi, rfl⟩, ha⟩
  · have HE : Hid (Ev w0 b c r pb po t G w RInt2 (initP.run s m) (Halt pb po) w1) := Ev.die (Pr.bind_none ho) ha
    clear hl hE ho ha
    unfold Halt
    go_wp2
    exact ⟨rfl, HE.out⟩
  have ho' : (layP d0 1).run s m = (some a, s1, m1) := ho
  rw [ho'] at hct
  have hrun := Pr.bind_some (f := fun x : Lr => if x.err = 0 then Pr.ask (.alloc (.word x.h)) fun a => if a.err = 0 then .ret (a.n, 0) else .ask (.free x.d.st) fun _ => .ask (.free x.h) fun _ => .ret (0, a.err) else .ret ((0 : Int), x.err)) ho'
  have hrun : initP.run s m = _ := hrun
  have hst : d.st = a.d.st := by rw [← hd]; rfl
  by_cases herr : a.err = 0
  · rw [if_pos herr, ← hst] at hrun
    have hb2 := (Below.refl w1.heap.size w1).alloc (Nat.le_refl _) d.obj
    have hal := eallocword (ha.sys.later hb2) hT (by simp only at hct; omega) a.h
    have hct2 := ask_count s1 (.alloc (.word a.h)) m1
    have HR := Lib.hid hrun
    have HA := Lib.hid (ha.later hb2)
    have HV := Lib.hid (dnewd w1 d)
    have HL := Lib.hid (ha.sys.fresh d.obj)
    rw [herr]
    unfold Ds.v
    unfold Ds.obj at hal
    clear hl hE ho ho' ha herr hrun hb2 hi hd hst
    go_wp2_with fail
    refine hal.mono ?_
    rintro e w2 hE
    rcases hE.cases with ⟨t2, G2, s2, m2, ho, rfl, ha⟩ | ⟨t2, G2, s2, m2, x, v, ho, rfl, rfl, ha⟩
    · have HE : Hid (Ev w0 b c r pb po t G w RInt2 (initP.run s m) (Halt pb po) w2) := Ev.die (by rw [HR.out, Pr.run_ask, ho]) (HA.out.trans ha)
      clear hal hE ho ha
      unfold Halt
      go_wp2
      exact ⟨rfl, HE.out⟩
    rw [ho] at hct2
    have ha3 := HA.out.trans ha
    obtain ⟨v2, l2⟩ := ha.cells HL.out HV.out
    obtain ⟨c0, c1, c2, c3⟩ := v2.cells
    have hz := v2.lt
    by_cases herr : x.err = 0
    · have HE : Hid (Ev w0 b c r pb po t G w RInt2 (initP.run s m) (.returned (.tuple #[.int .i64 x.n, .int .i64 0])) w2) := Ev.ret (a := (x.n, 0)) (by rw [HR.out, Pr.run_ask, ho]; simp only; rw [if_pos herr]; simp only [Pr.run]) rfl ha3
      rw [herr]
      clear hal hE ho ha herr ha3 v2 l2
      go_wp2
      go_ret2
      exact HE.out
    · have hf1 := efree ha.sys (by simp only at hct hct2; omega) d.st
      have hct3 := ask_count s2 (.free d.st) m2
      have HR2 : Hid (initP.run s m = (Pr.ask (.free d.st) fun _ => .ask (.free a.h) fun _ => .ret ((0 : Int), x.err)).run s2 m2) := by
        unfold Hid; rw [HR.out, Pr.run_ask, ho]; simp only; rw [if_neg herr]
      have HA3 := Lib.hid ha3
      clear hal hE ho ha ha3 v2 l2
      go_wp2_with fail
      refine hf1.mono ?_
      rintro e w3 hE
      rcases hE.cases with ⟨t3, G3, s3, m3, ho, rfl, ha⟩ | ⟨t3, G3, s3, m3, y, v, ho, rfl, rfl, ha⟩
      · have HE : Hid (Ev w0 b c r pb po t G w RInt2 (initP.run s m) (Halt pb po) w3) := Ev.die (by rw [HR2.out, Pr.run_ask, ho]) (HA3.out.trans ha)
        clear hf1 hE ho ha
        unfold Halt
        go_wp2
        exact ⟨rfl, HE.out⟩
      rw [ho] at hct3
      have hf2 := efree ha.sys (by simp only at hct hct2 hct3; omega) a.h
      have HR3 : Hid (initP.run s m = (Pr.ask (.free a.h) fun _ => .ret ((0 : Int), x.err)).run s3 m3) := by
        unfold Hid; rw [HR2.out, Pr.run_ask, ho]
      have HA4 := Lib.hid (HA3.out.trans ha)
      clear hf1 hE ho ha c0 c1 c2 c3
      go_wp2_with fail
      refine hf2.mono ?_
      rintro e w4 hE
      rcases hE.cases with ⟨t4, G4, s4, m4, ho, rfl, ha⟩ | ⟨t4, G4, s4, m4, z, v, ho, rfl, rfl, ha⟩
      · have HE : Hid (Ev w0 b c r pb po t G w RInt2 (initP.run s m) (Halt pb po) w4) := Ev.die (by rw [HR3.out, Pr.run_ask, ho]) (HA4.out.trans ha)
        clear hf2 hE ho ha
        unfold Halt
        go_wp2
        exact ⟨rfl, HE.out⟩
      · have HE : Hid (Ev w0 b c r pb po t G w RInt2 (initP.run s m) (.returned (.tuple #[.int .i64 0, .int .i64 x.err])) w4) := Ev.ret (a := (0, x.err)) (by rw [HR3.out, Pr.run_ask, ho]; simp only [Pr.run]) rfl (HA4.out.trans ha)
        clear hf2 hE ho ha
        go_wp2
        go_ret2
        exact HE.out
  · rw [if_neg herr] at hrun
    have HE : Hid (∀ o : Obj, Ev w0 b c r pb po t G w RInt2 (initP.run s m) (.returned (.tuple #[.int .i64 0, .int .i64 a.err])) (w1.alloc o)) := fun o =>
      Ev.ret (a := (0, a.err)) (by rw [hrun]; simp only [Pr.run]) rfl (ha.later ((Below.refl _ _).alloc (Nat.le_refl _) o))
    unfold Ds.v
    clear hl hE ho ho' ha hrun hi hd hst
    go_wp2
    go_ret2
    exact HE.out _
def makeP (ver bf : Int) (l : List Sw) : Pr (Int × Int) := (layP ⟨ver, bf, 0, l, none, 0, 0⟩ 0).bind fun x => .ret (x.h, x.err)
theorem lay_e (d : Ds) (st : Int) : layP d.e st = layP d st := rfl
set_option maxHeartbeats 1000000 in
theorem make_E (h : SysE w0 b c r pb po t G w m s) (hT : TabAt w0) (hc : m.count ≤ 700000) (ver bf : Int) (ad : Option Addr) (cap : Nat) (l : List Sw) (hl : l.length ≤ 1000000) (hcap : l.length ≤ cap) (hs : SlAt w ad l) :
    Calls Tryd.prog 31 #[.pointer (some ⟨pb, po, none⟩), .int .i64 ver, .int .i64 bf, .slice ad l.length cap] w fun e w' => Ev w0 b c r pb po t G w RInt2 ((makeP ver bf l).run s m) e w' := by
  have hcl := clone_any w ad cap l hl hcap hs
  have HS := Lib.hid h
  clear h hs
  generalize hn : l.length = n at *
  have HN := Lib.hid hn
  clear hn
  go_enter Tryd.func31, Tryd.ntmps31
  go_wp2_with fail
  refine hcl.mono ?_
  rintro e w1 ⟨⟨ad1, cap1, rfl, hc1, hs1⟩, hb1⟩
  rw [HN.out] at hc1 ⊢
  obtain ⟨G1, hS1, hdi, hg⟩ : ∃ G1, SysE w0 b c r pb po t G1 w1 m s ∧ (Ds.mk ver bf 0 l ad1 n cap1).In G1 ∧ Grow w G G1 := by
    rcases hs1 with e | ⟨g, e, hg, hr⟩
    · exact ⟨G, HS.out.later hb1, ⟨HN.out.symm, hc1, by rw [HN.out]; exact hl, .inl e⟩, Grow.refl _ _⟩
    · exact ⟨(g, l) :: G, HS.out.grow hb1 hg hr, ⟨HN.out.symm, hc1, by rw [HN.out]; exact hl, .inr ⟨g, e, List.mem_cons_self ..⟩⟩, ⟨fun x hx => List.mem_cons_of_mem _ hx, fun x hx => (List.mem_cons.1 hx).elim (fun e => by cases e; exact .inr hg) .inl⟩⟩
  have hb2 := (Below.refl w1.heap.size w1).alloc (Nat.le_refl _) (Ds.mk ver bf 0 l ad1 n cap1).obj
  have hly := lay_E (hS1.later hb2) hT (by omega) (Ds.mk ver bf 0 l ad1 n cap1) hdi 0
  have HA : Hid (Aft w0 b c r pb po t G w t G1 (w1.alloc (Ds.mk ver bf 0 l ad1 n cap1).obj) m s) :=
    ⟨hS1.later hb2, (But5.of hb1).trans (But5.of hb2), Row2.refl _ _, hg⟩
  unfold Ds.v at hly
  unfold Ds.obj at hly HA
  simp only at hly HA
  clear hcl hb1 hS1 hdi hg hb2 hs1 hc1
  go_wp2_with fail
  refine hly.mono ?_
  rintro e w2 hE
  rcases hE.cases with ⟨t2, G2, s2, m2, ho, rfl, ha⟩ | ⟨t2, G2, s2, m2, a, v, ho, rfl, ⟨d, hd, hi, rfl⟩, ha⟩
  · have HE : Hid (Ev w0 b c r pb po t G w RInt2 ((makeP ver bf l).run s m) (Halt pb po) w2) := Ev.die (Pr.bind_none ho) (HA.out.trans ha)
    clear hly hE ho ha
    unfold Halt
    go_wp2
    exact ⟨rfl, HE.out⟩
  · have HE : Hid (∀ o : Obj, Ev w0 b c r pb po t G w RInt2 ((makeP ver bf l).run s m) (.returned (.tuple #[.int .i64 a.h, .int .i64 a.err])) (w2.alloc o)) := fun o =>
      Ev.ret (a := (a.h, a.err)) ((Pr.bind_some ho).trans (by simp only [Pr.run])) rfl ((HA.out.trans ha).later ((Below.refl _ _).alloc (Nat.le_refl _) o))
    unfold Ds.v
    clear hly hE ho ha hd hi
    go_wp2
    go_ret2
    exact HE.out _
end
end Go.Proofs.YteiikkkcjpfapaaDoor
