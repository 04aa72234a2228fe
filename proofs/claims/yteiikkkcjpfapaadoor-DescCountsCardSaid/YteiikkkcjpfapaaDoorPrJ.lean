/- What Undo and Drop come to. Conditions: at most 700000 asks. -/
import Derived.Test.YteiikkkcjpfapaaDoorPrI
namespace Go.Proofs.YteiikkkcjpfapaaDoor
open Go.RowKit Go.Op
set_option maxRecDepth 100000

def bothP (h : Int) (q : Int → Qn) : Pr Int := (heldP h).bind fun x => if x.2 = 0 then .ask (q x.1.st) fun a => if a.err = 0 then .ask (q h) fun y => .ret y.err else .ret a.err else .ret x.2
def undoP (h : Int) : Pr Int := bothP h .free
def dropP (h st : Int) : Pr Int := bothP h fun k => .retire k st
section
variable {w0 : World} {b c r pb po : Nat} {t t1 : Value} {G G1 : List (Nat × List Sw)} {w w1 w2 : World} {m m1 : M} {s s1 : Pt}
set_option maxHeartbeats 1000000 in
theorem both_E (h : SysE w0 b c r pb po t G w m s) (hc : m.count ≤ 700000) (k : Int) (q : Int → Qn) (fk : FuncId) (first caps : Array Value) (he : ∀ zs w, (callFunc fk zs).run Tryd.prog w = .ok (.enter fk zs) w)
    (hf : ∀ t1 G1 w1 m1 s1 x, Aft w0 b c r pb po t G w t1 G1 w1 m1 s1 → m1.count ≤ 900000 → Calls Tryd.prog fk (first ++ #[.int .i64 x] ++ caps) w1 fun e w' => Ev w0 b c r pb po t1 G1 w1 (fun _ a v => v = .int .i64 a.err) (s1.ask (q x) m1) e w') :
    Calls Tryd.prog 59 #[.pointer (some ⟨pb, po, none⟩), .int .i64 k, .func (.func fk) first caps] w fun e w' => Ev w0 b c r pb po t G w RInt ((bothP k q).run s m) e w' := by
  have hl := held_E h (by omega) k
  have hct := held_count k s m
  have HF := Lib.hid hf
  clear h hf
  go_enter Tryd.func59, Tryd.ntmps59
  go_wp2_with fail
  refine hl.mono ?_
  rintro e w1 hE
  rcases hE.cases with ⟨t1, G1, s1, m1, ho, rfl, ha⟩ | ⟨t1, G1, s1, m1, a, v, ho, rfl, ⟨d, hd, hi, rfl⟩, ha⟩
  · have HE : Hid (Ev w0 b c r pb po t G w RInt ((bothP k q).run s m) (Halt pb po) w1) := Ev.die (Pr.bind_none ho) ha
    clear hl hE ho ha
    unfold Halt
    go_wp2
    exact ⟨rfl, HE.out⟩
  rw [ho] at hct
  have hrun := Pr.bind_some (f := fun x : Ds × Int => if x.2 = 0 then Pr.ask (q x.1.st) fun a => if a.err = 0 then .ask (q k) fun y => .ret y.err else .ret a.err else .ret x.2) ho
  have hrun : (bothP k q).run s m = _ := hrun
  have hst : d.st = a.1.st := by rw [← hd]; rfl
  have hb2 := (Below.refl w1.heap.size w1).alloc (Nat.le_refl _) d.obj
  by_cases herr : a.2 = 0
  · rw [if_pos herr, ← hst] at hrun
    have hf1 := HF.out t1 G1 (w1.alloc d.obj) m1 s1 d.st (ha.later hb2) (by simp only at hct; omega)
    have hct2 := ask_count s1 (q d.st) m1
    have HR := Lib.hid hrun
    have HA := Lib.hid (ha.later hb2)
    rw [herr]
    unfold Ds.v
    unfold Ds.obj at hf1 HA
    clear hl hE ho ha herr hrun hb2 hi hd hst
    go_wp2_with fail
    refine hf1.mono ?_
    rintro e w2 hE
    rcases hE.cases with ⟨t2, G2, s2, m2, ho, rfl, ha⟩ | ⟨t2, G2, s2, m2, x, v, ho, rfl, rfl, ha⟩
    · have HE : Hid (Ev w0 b c r pb po t G w RInt ((bothP k q).run s m) (Halt pb po) w2) := Ev.die (by rw [HR.out, Pr.run_ask, ho]) (HA.out.trans ha)
      clear hf1 hE ho ha
      unfold Halt
      go_wp2
      exact ⟨rfl, HE.out⟩
    rw [ho] at hct2
    have ha3 := HA.out.trans ha
    by_cases herr : x.err = 0
    · have hf2 := HF.out t2 G2 w2 m2 s2 k ha3 (by simp only at hct hct2; omega)
      have HR2 : Hid ((bothP k q).run s m = (Pr.ask (q k) fun y => Pr.ret y.err).run s2 m2) := by
        unfold Hid; rw [HR.out, Pr.run_ask, ho]; simp only; rw [if_pos herr]
      have HA3 := Lib.hid ha3
      rw [herr]
      clear hf1 hE ho ha herr ha3
      go_wp2_with fail
      refine hf2.mono ?_
      rintro e w3 hE
      rcases hE.cases with ⟨t3, G3, s3, m3, ho, rfl, ha⟩ | ⟨t3, G3, s3, m3, y, v, ho, rfl, rfl, ha⟩
      · have HE : Hid (Ev w0 b c r pb po t G w RInt ((bothP k q).run s m) (Halt pb po) w3) := Ev.die (by rw [HR2.out, Pr.run_ask, ho]) (HA3.out.trans ha)
        clear hf2 hE ho ha
        unfold Halt
        go_wp2
        exact ⟨rfl, HE.out⟩
      · have HE : Hid (Ev w0 b c r pb po t G w RInt ((bothP k q).run s m) (.returned (.int .i64 y.err)) w3) := Ev.ret (a := y.err) (by rw [HR2.out, Pr.run_ask, ho]; simp only [Pr.run]) rfl (HA3.out.trans ha)
        clear hf2 hE ho ha
        go_wp2
        go_ret
        exact HE.out
    · have HE : Hid (Ev w0 b c r pb po t G w RInt ((bothP k q).run s m) (.returned (.int .i64 x.err)) w2) := Ev.ret (a := x.err) (by rw [HR.out, Pr.run_ask, ho]; simp only; rw [if_neg herr]; simp only [Pr.run]) rfl ha3
      clear hf1 hE ho ha ha3
      go_wp2
      go_ret
      exact HE.out
  · rw [if_neg herr] at hrun
    have HE : Hid (∀ o : Obj, Ev w0 b c r pb po t G w RInt ((bothP k q).run s m) (.returned (.int .i64 a.2)) (w1.alloc o)) := fun o =>
      Ev.ret (a := a.2) (by rw [hrun]; simp only [Pr.run]) rfl (ha.later ((Below.refl _ _).alloc (Nat.le_refl _) o))
    unfold Ds.v
    clear hl hE ho ha hrun hi hd hst hb2
    go_wp2
    go_ret
    exact HE.out _
theorem enter_40 (xs : Array Value) (w : World) : (callFunc 40 xs).run Tryd.prog w = .ok (.enter 40 xs) w := by kernel_rfl
theorem enter_60 (xs : Array Value) (w : World) : (callFunc 60 xs).run Tryd.prog w = .ok (.enter 60 xs) w := by kernel_rfl
theorem hmf1 (fn : Fn) (first cap : Array Value) (w : World) : (Instr.makeFunc fn first cap).run Tryd.prog w = .ok (.func fn first cap) w := rfl
theorem undo_E (h : SysE w0 b c r pb po t G w m s) (hc : m.count ≤ 700000) (k : Int) :
    Calls Tryd.prog 32 #[.pointer (some ⟨pb, po, none⟩), .int .i64 k] w fun e w' => Ev w0 b c r pb po t G w RInt ((undoP k).run s m) e w' := by
  have hb := both_E h hc k .free 40 #[.pointer (some ⟨pb, po, none⟩)] #[] enter_40 (fun t1 G1 w1 m1 s1 x ha hc1 => efree ha.sys hc1 x)
  have hm := hmf1
  clear h
  unfold undoP
  go_enter Tryd.func32, Tryd.ntmps32
  go_wp2_with fail
  refine hb.mono ?_
  rintro e w1 hE
  rcases hE.cases with ⟨t1, G1, s1, m1, ho, rfl, ha⟩ | ⟨t1, G1, s1, m1, a, v, ho, rfl, rfl, ha⟩
  · have HE := Lib.hid hE
    clear hb hE ho ha
    unfold Halt
    go_wp2
    exact ⟨rfl, HE.out⟩
  · have HE := Lib.hid hE
    clear hb hE ho ha
    go_wp2
    go_ret
    exact HE.out
theorem drop1_E (h : SysE w0 b c r pb po t G w m s) (hc : m.count ≤ 900000) (x st : Int) (z1 z2 : Nat) (h1 : w.cell? ⟨z1, 0, none⟩ = some (.pointer (some ⟨pb, po, none⟩))) (h2 : w.cell? ⟨z2, 0, none⟩ = some (.int .i64 st)) :
    Calls Tryd.prog 60 (#[] ++ #[.int .i64 x] ++ #[.pointer (some ⟨z1, 0, none⟩), .pointer (some ⟨z2, 0, none⟩)]) w fun e w' => Ev w0 b c r pb po t G w (fun _ a v => v = .int .i64 a.err) (s.ask (.retire x st) m) e w' := by
  have hr := eretire h hc x st
  clear h
  show Calls Tryd.prog 60 #[.int .i64 x, .pointer (some ⟨z1, 0, none⟩), .pointer (some ⟨z2, 0, none⟩)] w _
  go_enter Tryd.func60, Tryd.ntmps60
  go_wp2_with fail
  refine hr.mono ?_
  rintro e w1 hE
  rcases hE.cases with ⟨t1, G1, s1, m1, ho, rfl, ha⟩ | ⟨t1, G1, s1, m1, a, v, ho, rfl, rfl, ha⟩
  · have HE := Lib.hid hE
    clear hr hE ho ha
    unfold Halt
    go_wp2
    exact ⟨rfl, HE.out⟩
  · have HE := Lib.hid hE
    clear hr hE ho ha
    go_wp2
    go_ret
    exact HE.out
theorem drop_E (h : SysE w0 b c r pb po t G w m s) (hc : m.count ≤ 700000) (k st : Int) :
    Calls Tryd.prog 33 #[.pointer (some ⟨pb, po, none⟩), .int .i64 k, .int .i64 st] w fun e w' => Ev w0 b c r pb po t G w RInt ((dropP k st).run s m) e w' := by
  obtain ⟨wa, hwa⟩ : ∃ W, W = (w.alloc (.cells #[.pointer (some ⟨pb, po, none⟩)] 36)).alloc (.cells #[.int .i64 st] 3) := ⟨_, rfl⟩
  have hsz : (w.alloc (.cells #[.pointer (some ⟨pb, po, none⟩)] 36)).heap.size = w.heap.size + 1 := by simp
  have b1 := (Below.refl w.heap.size w).alloc (Nat.le_refl _) (.cells #[.pointer (some ⟨pb, po, none⟩)] 36)
  have b2 := (Below.refl (w.alloc (.cells #[.pointer (some ⟨pb, po, none⟩)] 36)).heap.size (w.alloc (.cells #[.pointer (some ⟨pb, po, none⟩)] 36))).alloc (Nat.le_refl _) (.cells #[.int .i64 st] 3)
  have ba : Below w.heap.size w wa := by rw [hwa]; exact b1.alloc (by simp) _
  have la : Loc w0 b c r pb t G wa w.heap.size := by rw [hwa]; exact (h.fresh _).later b2
  have lb : Loc w0 b c r pb t G wa (w.heap.size + 1) := by
    have := (h.later b1).fresh (.cells #[.int .i64 st] 3)
    rw [hsz] at this
    rw [hwa]; exact this
  have ca : wa.cell? ⟨w.heap.size, 0, none⟩ = some (.pointer (some ⟨pb, po, none⟩)) := by rw [hwa]; simp [go_sem]
  have cb : wa.cell? ⟨w.heap.size + 1, 0, none⟩ = some (.int .i64 st) := by rw [hwa]; simp [go_sem]
  have hb := both_E (h.later ba) hc k (fun x => .retire x st) 60 #[] #[.pointer (some ⟨w.heap.size, 0, none⟩), .pointer (some ⟨w.heap.size + 1, 0, none⟩)] enter_60 (fun t1 G1 w1 m1 s1 x ha hc1 => by
    have k1 := (la.aft ha).2
    have k2 := (lb.aft ha).2
    exact drop1_E ha.sys hc1 x st _ _ ((World.cell?_of_block (w := wa) (a := ⟨w.heap.size, 0, none⟩) k1).trans ca) ((World.cell?_of_block (w := wa) (a := ⟨w.heap.size + 1, 0, none⟩) k2).trans cb))
  have hm := hmf1
  have HW := Lib.hid hwa.symm
  have HB := Lib.hid ba
  clear h hwa hsz b1 b2 ba la lb cb
  unfold dropP
  go_enter Tryd.func33, Tryd.ntmps33
  go_wp2_with (first | rw [HW.out] | fail)
  refine hb.mono ?_
  rintro e w1 hE
  rcases hE.cases with ⟨t1, G1, s1, m1, ho, rfl, ha⟩ | ⟨t1, G1, s1, m1, a, v, ho, rfl, hv, ha⟩
  · have HE : Hid (Ev w0 b c r pb po t G w RInt ((bothP k fun x => .retire x st).run s m) (Halt pb po) w1) := Ev.die ho (ha.back HB.out)
    clear hb hE ho ha
    unfold Halt
    go_wp2
    exact ⟨rfl, HE.out⟩
  · have hv : v = .int .i64 a := hv
    have HE : Hid (Ev w0 b c r pb po t G w RInt ((bothP k fun x => .retire x st).run s m) (.returned (.int .i64 a)) w1) := Ev.ret ho rfl (ha.back HB.out)
    subst hv
    clear hb hE ho ha
    go_wp2
    go_ret
    exact HE.out
end
end Go.Proofs.YteiikkkcjpfapaaDoor
