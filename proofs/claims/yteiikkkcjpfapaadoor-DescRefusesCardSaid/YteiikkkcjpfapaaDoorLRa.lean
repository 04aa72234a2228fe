/- DescRefuses' closure. Condition: the library's table stands. -/
import Derived.Test.YteiikkkcjpfapaaDoorAwB
namespace Go.Proofs.YteiikkkcjpfapaaDoor
open Go.RowKit Go.Op
set_option maxRecDepth 100000

def xtext : Value := .string ⟨#[120]⟩
def rf0 : M := (layS (initP.go (M.new 9)).2 1).1
def rf1 : M := ((heldP 4).go rf0).2
def rf2 : M := ((lastP 4).go rf1).2
def rf3 : M := ((Qn.alloc (.text xtext)).on rf2).1
def rf4 : M := ((heldP 5).go rf3).2
def rf5 : M := ((lastP 0).go rf4).2
def rf6 : M := ((versionP 5).go rf5).2
def rf7 : M := ((Qn.free 5).on rf6).1
def rf8 : M := ((undoP 5).go rf7).2
theorem rf0a : (layS (initP.go (M.new 9)).2 1).2 = [4] := by kernel_rfl
theorem rf1a : ((heldP 4).go rf0).1.2 = 6 := by kernel_rfl
theorem rf2a : ((lastP 4).go rf1).1.err = 5 := by kernel_rfl
theorem rf3a : ((Qn.alloc (.text xtext)).on rf2).2.n = 5 := by kernel_rfl
theorem rf3b : ((Qn.alloc (.text xtext)).on rf2).2.err = 0 := by kernel_rfl
theorem rf4a : ((heldP 5).go rf3).1.2 = 6 := by kernel_rfl
theorem rf5a : ((lastP 0).go rf4).1.err = 5 := by kernel_rfl
theorem rf6a : ((versionP 5).go rf5).1.2 = 6 := by kernel_rfl
theorem rf8a : ((undoP 5).go rf7).1 = 5 := by kernel_rfl
theorem rf9a : ((dropP 5 1).go rf8).1 = 5 := by kernel_rfl
theorem rfc : rf0.count ≤ 100 ∧ rf1.count ≤ 100 ∧ rf2.count ≤ 100 ∧ rf3.count ≤ 100 ∧ rf4.count ≤ 100 ∧ rf5.count ≤ 100 ∧ rf6.count ≤ 100 ∧ rf7.count ≤ 100 ∧ rf8.count ≤ 100 := by decide
theorem rflay : ∀ i : Nat, i < 1 → ((layS (initP.go (M.new 9)).2 i).1.alloc (.word i)).2.2 = 0 := fun i hi => by
  obtain rfl : i = 0 := by omega
  kernel_rfl
theorem mk9 (x : Value) (w : World) : (Instr.makeInterface 9 x).run Tryd.prog w = .ok (.iface 9 x) w := run_makeInterface w 9 x (by kernel_rfl)
theorem mk4 (x : Value) (w : World) : (Instr.makeInterface 4 x).run Tryd.prog w = .ok (.iface 4 x) w := run_makeInterface w 4 x (by kernel_rfl)
set_option maxHeartbeats 2000000 in
theorem refuses1_any {w0 w : World} {b c r g : Nat} {G : List (Nat × List Sw)} {zy cap : Nat} (h : HasE w0 b c r G w rf0) (hT : TabAt w0) (hy : YVar w zy b 3 (.slice (some ⟨g, 0, none⟩) 1 cap)) (ly : LocM w0 b c r G w zy) (lg : LocM w0 b c r G w g) (hg : w.cell? ⟨g, 0, none⟩ = some (.int .i64 4)) :
    Calls Tryd.prog 37 (#[.pointer (some ⟨w.heap.size, 0, none⟩)] ++ #[.pointer (some ⟨zy, 0, none⟩)]) (w.alloc (portObj b)) fun e w' => ∃ u, e = .returned u ∧ u = .iface 4 (.bool true) ∧ ButN [b, c, r] w.heap.size w w' := by
  have hC := Clo.start h (Z := [b, c, r]) ⟨by simp, by simp, by simp⟩ hy ly
  obtain ⟨k0, k1, k2, k3, k4, k5, k6, k7, k8⟩ := rfc
  have h1 := load_E hC.sys (by omega) 4
  have HC := Lib.hid hC
  have c2 := hC.y.c2
  have cg : (w.alloc (portObj b)).cell? ⟨g, 0, none⟩ = some (.int .i64 4) := by
    rw [((Below.refl w.heap.size w).alloc (Nat.le_refl _) (portObj b)).cell (p := ⟨g, 0, none⟩) lg.lt]; exact hg
  have m4 := mk4
  have m9 := mk9
  show Calls Tryd.prog 37 #[.pointer (some ⟨w.heap.size, 0, none⟩), .pointer (some ⟨zy, 0, none⟩)] (w.alloc (portObj b)) _
  clear h hy hC hg lg
  generalize hwp : w.alloc (portObj b) = wp at *
  go_enter Tryd.func37, Tryd.ntmps37
  go_wp2_with fail
  refine h1.mono ?_
  rintro e w1 hE
  obtain ⟨t1, G1, u, rfl, ⟨d, hd, hi, hv⟩, hC1, -⟩ := HC.out.step hE
  rw [rf1a] at hv
  subst hv
  replace hC1 : Clo w0 b c r [b, c, r] w G zy 3 (.slice (some ⟨g, 0, none⟩) 1 cap) t1 G1 w1 rf1 := hC1
  have hC1b := hC1.later ((Below.refl w1.heap.size w1).alloc (Nat.le_refl _) d.obj)
  have h2 := latest_E hC1b.sys (by omega) 4
  have HC1 := Lib.hid hC1b
  unfold Ds.v
  unfold Ds.obj at h2 HC1
  clear h1 hE HC c2 cg hC1 hC1b hd hi
  go_wp2_with fail
  refine h2.mono ?_
  rintro e w2 hE
  obtain ⟨t2, G2, u, rfl, ⟨d, hd, hi, hv⟩, hC2, -⟩ := HC1.out.step hE
  rw [rf2a] at hv
  subst hv
  replace hC2 : Clo w0 b c r [b, c, r] w G zy 3 (.slice (some ⟨g, 0, none⟩) 1 cap) t2 G2 w2 rf2 := hC2
  have hC2b := hC2.later ((Below.refl w2.heap.size w2).alloc (Nat.le_refl _) d.obj)
  have h3 := ealloctext hC2b.sys hT (by omega) xtext
  have HC2 := Lib.hid hC2b
  unfold Ds.v
  unfold Ds.obj at h3 HC2
  unfold xtext at h3
  clear h2 hE HC1 hC2 hC2b hd hi
  go_wp2_with fail
  refine h3.mono ?_
  rintro e w3 hE
  obtain ⟨t3, G3, u, rfl, hv, hC3, -⟩ := HC2.out.step1 hE
  replace hv : u = .tuple #[.int .i64 ((Qn.alloc (.text xtext)).on rf2).2.n, .int .i64 ((Qn.alloc (.text xtext)).on rf2).2.err] := hv
  rw [rf3a, rf3b] at hv
  subst hv
  replace hC3 : Clo w0 b c r [b, c, r] w G zy 3 (.slice (some ⟨g, 0, none⟩) 1 cap) t3 G3 w3 rf3 := hC3
  have h4 := load_E hC3.sys (by omega) 5
  have HC3 := Lib.hid hC3
  clear h3 hE HC2 hC3
  go_wp2_with fail
  refine h4.mono ?_
  rintro e w4 hE
  obtain ⟨t4, G4, u, rfl, ⟨d, hd, hi, hv⟩, hC4, -⟩ := HC3.out.step hE
  rw [rf4a] at hv
  subst hv
  replace hC4 : Clo w0 b c r [b, c, r] w G zy 3 (.slice (some ⟨g, 0, none⟩) 1 cap) t4 G4 w4 rf4 := hC4
  have hC4b := hC4.later ((Below.refl w4.heap.size w4).alloc (Nat.le_refl _) d.obj)
  have h5 := latest_E hC4b.sys (by omega) 0
  have HC4 := Lib.hid hC4b
  unfold Ds.v
  unfold Ds.obj at h5 HC4
  clear h4 hE HC3 hC4 hC4b hd hi
  go_wp2_with fail
  refine h5.mono ?_
  rintro e w5 hE
  obtain ⟨t5, G5, u, rfl, ⟨d, hd, hi, hv⟩, hC5, -⟩ := HC4.out.step hE
  rw [rf5a] at hv
  subst hv
  replace hC5 : Clo w0 b c r [b, c, r] w G zy 3 (.slice (some ⟨g, 0, none⟩) 1 cap) t5 G5 w5 rf5 := hC5
  have hC5b := hC5.later ((Below.refl w5.heap.size w5).alloc (Nat.le_refl _) d.obj)
  have h6 := version_E hC5b.sys (by omega) 5
  have HC5 := Lib.hid hC5b
  unfold Ds.v
  unfold Ds.obj at h6 HC5
  clear h5 hE HC4 hC5 hC5b hd hi
  go_wp2_with fail
  refine h6.mono ?_
  rintro e w6 hE
  obtain ⟨t6, G6, u, rfl, hv, hC6, -⟩ := HC5.out.step hE
  replace hv : u = .tuple #[.int .i64 ((versionP 5).go rf5).1.1, .int .i64 ((versionP 5).go rf5).1.2] := hv
  rw [rf6a] at hv
  subst hv
  replace hC6 : Clo w0 b c r [b, c, r] w G zy 3 (.slice (some ⟨g, 0, none⟩) 1 cap) t6 G6 w6 rf6 := hC6
  have h7 := efree hC6.sys (by omega) 5
  have HC6 := Lib.hid hC6
  clear h6 hE HC5 hC6
  go_wp2_with fail
  refine h7.mono ?_
  rintro e w7 hE
  obtain ⟨t7, G7, u, rfl, hv, hC7, -⟩ := HC6.out.step1 hE
  subst hv
  replace hC7 : Clo w0 b c r [b, c, r] w G zy 3 (.slice (some ⟨g, 0, none⟩) 1 cap) t7 G7 w7 rf7 := hC7
  have h8 := undo_E hC7.sys (by omega) 5
  have HC7 := Lib.hid hC7
  clear h7 hE HC6 hC7
  go_wp2_with fail
  refine h8.mono ?_
  rintro e w8 hE
  obtain ⟨t8, G8, u, rfl, hv, hC8, -⟩ := HC7.out.step hE
  replace hv : u = .int .i64 ((undoP 5).go rf7).1 := hv
  rw [rf8a] at hv
  subst hv
  replace hC8 : Clo w0 b c r [b, c, r] w G zy 3 (.slice (some ⟨g, 0, none⟩) 1 cap) t8 G8 w8 rf8 := hC8
  have h9 := drop_E hC8.sys (by omega) 5 1
  have HC8 := Lib.hid hC8
  clear h8 hE HC7 hC8
  go_wp2_with fail
  refine h9.mono ?_
  rintro e w9 hE
  obtain ⟨t9, G9, u, rfl, hv, hC9, -⟩ := HC8.out.step hE
  replace hv : u = .int .i64 ((dropP 5 1).go rf8).1 := hv
  rw [rf9a] at hv
  subst hv
  have HB := Lib.hid hC9.dgo.but
  clear h9 hE HC8 hC9
  go_wp2
  go_ret
  exact ⟨_, rfl, rfl, HB.out⟩
end Go.Proofs.YteiikkkcjpfapaaDoor
