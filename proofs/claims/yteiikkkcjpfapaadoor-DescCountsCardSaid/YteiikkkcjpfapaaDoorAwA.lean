/- That the laws are awake: the document's example. Condition: the library's table stands. -/
import Derived.Test.YteiikkkcjpfapaaDoorLayB
namespace Go.Proofs.YteiikkkcjpfapaaDoor
open Go.RowKit Go.Op
set_option maxRecDepth 100000

/-- In the midst of a closure that reads the law's yard. -/
structure Clo (w0 : World) (b c r : Nat) (Z : List Nat) (w : World) (G0 : List (Nat × List Sw)) (zy : Nat) (top : Int) (v : Value) (t1 : Value) (G1 : List (Nat × List Sw)) (w1 : World) (m : M) : Prop where
  dgo : Dgo w0 b c r w.heap.size Z w t1 G0 G1 w1 m (ptDo w b)
  y : YVar w1 zy b top v
  ly : LocM w0 b c r G0 w zy
section
variable {w0 : World} {b c r : Nat} {Z : List Nat} {w : World} {G0 G1 : List (Nat × List Sw)} {zy : Nat} {top : Int} {v t1 : Value} {w1 w2 : World} {m : M}
theorem Clo.sys (h : Clo w0 b c r Z w G0 zy top v t1 G1 w1 m) : SysE w0 b c r w.heap.size 0 t1 G1 w1 m (ptDo w b) := h.dgo.sys
theorem Clo.step {α : Type} {R : List (Nat × List Sw) → α → Value → Prop} {p : Pr α} {e : Ending} (h : Clo w0 b c r Z w G0 zy top v t1 G1 w1 m) (hE : Ev w0 b c r w.heap.size 0 t1 G1 w1 R (p.run (ptDo w b) m) e w2) :
    ∃ t2 G2 u, e = .returned u ∧ R G2 (p.go m).1 u ∧ Clo w0 b c r Z w G0 zy top v t2 G2 w2 (p.go m).2 ∧ Aft w0 b c r w.heap.size 0 t1 G1 w1 t2 G2 w2 (p.go m).2 (ptDo w b) := by
  obtain ⟨t2, G2, u, e1, hR, ha⟩ := hE.done (ptDo_quiet w b)
  exact ⟨t2, G2, u, e1, hR, ⟨h.dgo.aft ha, h.y.same ((h.ly.loc h.dgo).aft ha).2, h.ly⟩, ha⟩
theorem Clo.step1 {R : List (Nat × List Sw) → An → Value → Prop} {q : Qn} {e : Ending} (h : Clo w0 b c r Z w G0 zy top v t1 G1 w1 m) (hE : Ev w0 b c r w.heap.size 0 t1 G1 w1 R ((ptDo w b).ask q m) e w2) :
    ∃ t2 G2 u, e = .returned u ∧ R G2 (q.on m).2 u ∧ Clo w0 b c r Z w G0 zy top v t2 G2 w2 (q.on m).1 ∧ Aft w0 b c r w.heap.size 0 t1 G1 w1 t2 G2 w2 (q.on m).1 (ptDo w b) := by
  obtain ⟨t2, G2, u, e1, hR, ha⟩ := hE.done1 (ptDo_quiet w b)
  exact ⟨t2, G2, u, e1, hR, ⟨h.dgo.aft ha, h.y.same ((h.ly.loc h.dgo).aft ha).2, h.ly⟩, ha⟩
theorem Clo.later (h : Clo w0 b c r Z w G0 zy top v t1 G1 w1 m) (hb : Below w1.heap.size w1 w2) : Clo w0 b c r Z w G0 zy top v t1 G1 w2 m :=
  ⟨h.dgo.later hb, h.y.same (hb.block zy (h.ly.loc h.dgo).lt), h.ly⟩
theorem Clo.start (h : HasE w0 b c r G0 w m) (hz : b ∈ Z ∧ c ∈ Z ∧ r ∈ Z) (hy : YVar w zy b top v) (ly : LocM w0 b c r G0 w zy) : Clo w0 b c r Z w G0 zy top v (.slice none 0 0) G0 (w.alloc (portObj b)) m :=
  ⟨Dgo.start h hz, hy.same (((Below.refl w.heap.size w).alloc (Nat.le_refl _) _).block zy ly.lt), ly⟩
end
def aw0 : M := (initP.go (M.new 9)).2
def aw1 : M := ((versionP 3).go aw0).2
def aw2 : M := ((lastP 3).go aw1).2
def aw3 : M := ((makeP 3 0 []).go aw2).2
def aw4 : M := ((Qn.swap 3 2 5).on aw3).1
def aw5 : M := ((versionP 3).go aw4).2
def aw6 : M := ((heldP 5).go aw5).2
def aw7 : M := ((helpL 4 []).go aw6).2
theorem awt : (initP.go (M.new 9)).1 = (3, 0) := by kernel_rfl
theorem aw1a : ((versionP 3).go aw0).1 = (0, 0) := by kernel_rfl
theorem aw2a : ((lastP 3).go aw1).1.h = 2 := by kernel_rfl
theorem aw2b : ((lastP 3).go aw1).1.err = 0 := by kernel_rfl
theorem aw3a : ((makeP 3 0 []).go aw2).1 = (5, 0) := by kernel_rfl
theorem aw4a : ((Qn.swap 3 2 5).on aw3).2.ok = true := by kernel_rfl
theorem aw4b : ((Qn.swap 3 2 5).on aw3).2.err = 0 := by kernel_rfl
theorem aw5a : ((versionP 3).go aw4).1 = (0, 0) := by kernel_rfl
theorem aw6a : ((heldP 5).go aw5).1.1.st = 4 := by kernel_rfl
theorem aw6b : ((heldP 5).go aw5).1.1.sw = [] := by kernel_rfl
theorem aw6c : ((heldP 5).go aw5).1.2 = 0 := by kernel_rfl
theorem aw7a : ((helpL 4 []).go aw6).1 = 0 := by kernel_rfl
theorem aw8a : ((versionP 3).go aw7).1 = (3, 0) := by kernel_rfl
theorem awc : aw0.count ≤ 100 ∧ aw1.count ≤ 100 ∧ aw2.count ≤ 100 ∧ aw3.count ≤ 100 ∧ aw4.count ≤ 100 ∧ aw5.count ≤ 100 ∧ aw6.count ≤ 100 ∧ aw7.count ≤ 100 := by decide
set_option maxHeartbeats 1000000 in
theorem awake1_any {w0 w : World} {b c r : Nat} {G : List (Nat × List Sw)} {zy : Nat} {v : Value} (h : HasE w0 b c r G w aw0) (hT : TabAt w0) (hy : YVar w zy b 3 v) (ly : LocM w0 b c r G w zy) :
    Calls Tryd.prog 41 (#[.pointer (some ⟨w.heap.size, 0, none⟩)] ++ #[.pointer (some ⟨zy, 0, none⟩)]) (w.alloc (portObj b)) fun e w' => ∃ u, e = .returned u ∧ u = .iface 3 (.int .i64 300) ∧ ButN [b, c, r] w.heap.size w w' := by
  have hC := Clo.start h (Z := [b, c, r]) ⟨by simp, by simp, by simp⟩ hy ly
  obtain ⟨k0, k1, k2, k3, k4, k5, k6, k7⟩ := awc
  have h1 := version_E hC.sys (by omega) 3
  have HC := Lib.hid hC
  have c1 := hC.y.c1
  show Calls Tryd.prog 41 #[.pointer (some ⟨w.heap.size, 0, none⟩), .pointer (some ⟨zy, 0, none⟩)] (w.alloc (portObj b)) _
  clear h hy hC
  generalize hwp : w.alloc (portObj b) = wp at *
  go_enter Tryd.func41, Tryd.ntmps41
  go_wp2_with fail
  refine h1.mono ?_
  rintro e w1 hE
  obtain ⟨t1, G1, u, rfl, hv, hC1, -⟩ := HC.out.step hE
  replace hv : u = .tuple #[.int .i64 ((versionP 3).go aw0).1.1, .int .i64 ((versionP 3).go aw0).1.2] := hv
  rw [aw1a] at hv
  subst hv
  replace hC1 : Clo w0 b c r [b, c, r] w G zy 3 v t1 G1 w1 aw1 := hC1
  clear h1 hE HC c1
  have h2 := latest_E hC1.sys (by omega) 3
  have c1 := hC1.y.c1
  have HC := Lib.hid hC1
  clear hC1
  go_wp2_with fail
  refine h2.mono ?_
  rintro e w2 hE
  obtain ⟨t2, G2, u, rfl, ⟨d, hd, hi, hv⟩, hC2, -⟩ := HC.out.step hE
  rw [aw2a, aw2b] at hv
  subst hv
  replace hC2 : Clo w0 b c r [b, c, r] w G zy 3 v t2 G2 w2 aw2 := hC2
  have hC2b := hC2.later ((Below.refl w2.heap.size w2).alloc (Nat.le_refl _) d.obj)
  have h3 := make_E hC2b.sys hT (by omega) 3 0 none 0 [] (by simp) (by simp) (.inl rfl)
  simp only [List.length_nil] at h3
  have HC3 := Lib.hid hC2b
  unfold Ds.v
  unfold Ds.obj at h3 HC3
  clear h2 hE HC c1 hC2 hC2b hd hi
  go_wp2_with fail
  refine h3.mono ?_
  rintro e w3 hE
  obtain ⟨t3, G3, u, rfl, hv, hC3, -⟩ := HC3.out.step hE
  replace hv : u = .tuple #[.int .i64 ((makeP 3 0 []).go aw2).1.1, .int .i64 ((makeP 3 0 []).go aw2).1.2] := hv
  rw [aw3a] at hv
  subst hv
  replace hC3 : Clo w0 b c r [b, c, r] w G zy 3 v t3 G3 w3 aw3 := hC3
  have h4 := publish_E hC3.sys (by omega) 3 2 5
  have c1 := hC3.y.c1
  have HC := Lib.hid hC3
  clear h3 hE HC3 hC3
  go_wp2_with fail
  refine h4.mono ?_
  rintro e w4 hE
  obtain ⟨t4, G4, u, rfl, hv, hC4, -⟩ := HC.out.step1 hE
  rw [aw4a, aw4b] at hv
  subst hv
  replace hC4 : Clo w0 b c r [b, c, r] w G zy 3 v t4 G4 w4 aw4 := hC4
  have h5 := version_E hC4.sys (by omega) 3
  clear h4 hE HC c1
  have c1 := hC4.y.c1
  have HC := Lib.hid hC4
  clear hC4
  go_wp2_with fail
  refine h5.mono ?_
  rintro e w5 hE
  obtain ⟨t5, G5, u, rfl, hv, hC5, -⟩ := HC.out.step hE
  replace hv : u = .tuple #[.int .i64 ((versionP 3).go aw4).1.1, .int .i64 ((versionP 3).go aw4).1.2] := hv
  rw [aw5a] at hv
  subst hv
  replace hC5 : Clo w0 b c r [b, c, r] w G zy 3 v t5 G5 w5 aw5 := hC5
  have h6 := load_E hC5.sys (by omega) 5
  clear h5 hE HC c1
  have HC := Lib.hid hC5
  clear hC5
  go_wp2_with fail
  refine h6.mono ?_
  rintro e w6 hE
  obtain ⟨t6, G6, u, rfl, ⟨d2, hd, hi, hv⟩, hC6, -⟩ := HC.out.step hE
  rw [aw6c] at hv
  subst hv
  replace hC6 : Clo w0 b c r [b, c, r] w G zy 3 v t6 G6 w6 aw6 := hC6
  have hC6b := hC6.later ((Below.refl w6.heap.size w6).alloc (Nat.le_refl _) d2.obj)
  have hst : d2.st = 4 := by rw [← aw6a, ← hd]; rfl
  have hsw : d2.sw = [] := by rw [← aw6b, ← hd]; rfl
  have h7 := help_E hC6b.sys (by omega) d2 hi (by rw [hi.n, hsw]; simp)
  have hp : helpP d2 = helpL 4 [] := by unfold helpP; rw [hst, hsw]
  rw [hp] at h7
  have HC6 := Lib.hid hC6b
  unfold Ds.v at h7 ⊢
  unfold Ds.obj at h7 HC6
  clear h6 hE HC hC6 hC6b hd hi hst hsw hp
  go_wp2_with fail
  refine h7.mono ?_
  rintro e w7 hE
  obtain ⟨t7, G7, u, rfl, hv, hC7, -⟩ := HC6.out.step hE
  replace hv : u = .int .i64 ((helpL 4 []).go aw6).1 := hv
  rw [aw7a] at hv
  subst hv
  replace hC7 : Clo w0 b c r [b, c, r] w G zy 3 v t7 G7 w7 aw7 := hC7
  have h8 := version_E hC7.sys (by omega) 3
  have c1 := hC7.y.c1
  have HC := Lib.hid hC7
  clear h7 hE HC6 hC7
  go_wp2_with fail
  refine h8.mono ?_
  rintro e w8 hE
  obtain ⟨t8, G8, u, rfl, hv, hC8, -⟩ := HC.out.step hE
  replace hv : u = .tuple #[.int .i64 ((versionP 3).go aw7).1.1, .int .i64 ((versionP 3).go aw7).1.2] := hv
  rw [aw8a] at hv
  subst hv
  have HB := Lib.hid hC8.dgo.but
  clear h8 hE HC c1 hC8
  go_wp2
  go_ret
  exact ⟨_, rfl, rfl, HB.out⟩
end Go.Proofs.YteiikkkcjpfapaaDoor
