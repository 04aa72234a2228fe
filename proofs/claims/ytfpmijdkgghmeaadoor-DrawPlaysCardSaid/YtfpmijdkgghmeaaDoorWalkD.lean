/- The four laws of the package draw over what the rows ask: the listed table stands in its variable. Conditions: the library's table deBruijn32tab reads as its initialiser lays it. -/
import Derived.Test.YtfpmijdkgghmeaaDoorRows
import Derived.Test.YtfpmijdkgghmeaaDoorWalkB
import Derived.Test.YtfpmijdkgghmeaaDoorWalkC
import Derived.Lib.LaidTab
import Derived.MakeChecks
namespace Go.Proofs.YtfpmijdkgghmeaaDoor
open Go.RowKit Go.Op
set_option maxRecDepth 100000

theorem tab_of_laid {W : World} (h : laidMetH Tryd.prog [("math/bits.deBruijn32tab", Rows.laid_math_bits_deBruijn32tab)] W) : TabAt W := by
  rw [MakeChecks.laidMetH_plain _ _ _ (by kernel_rfl)] at h
  have hT : Lib.TabIs Tryd.prog W "math/bits.deBruijn32tab" .u8 (Lib.deBruijn32tab.map fun (n : Nat) => (n : Int)) :=
    Lib.tabIs_of_head (g := 0) (t := 35) (e := 5) (n := 32) (by kernel_rfl) (by kernel_rfl) (by kernel_rfl) (by kernel_rfl) (by kernel_rfl) (by kernel_rfl) h
  intro j hj
  have hc := hT.cell (g := 0) (by kernel_rfl) j (by rw [List.length_map]; exact hj)
  rw [hc]
  clear hc hT h
  congr 2
  revert j
  decide
theorem nat_u32 {a : Int} (h : (Lit.int .u32 a).wf = true) : ∃ n : Nat, a = (n : Int) ∧ n < 4294967296 := by
  simp [Lit.wf, IntKind.min, IntKind.max, IntKind.signed, IntKind.bits] at h
  exact ⟨a.toNat, by omega, by omega⟩
theorem nat_u8 {a : Int} (h : (Lit.int .u8 a).wf = true) : ∃ n : Nat, a = (n : Int) ∧ n < 256 := by
  simp [Lit.wf, IntKind.min, IntKind.max, IntKind.signed, IntKind.bits] at h
  exact ⟨a.toNat, by omega, by omega⟩
theorem same_below {Q : Ending → Prop} {w : World} : ∀ e w', Q e ∧ w = w' → Q e ∧ Below w.heap.size w w' := by
  rintro e w' ⟨h, rfl⟩
  exact ⟨h, Below.refl _ _⟩
theorem playsLaw (a : Int) (ha : (Lit.int .u32 a).wf = true) (l : Int) (_hl : (Lit.int .i64 l).wf = true) (m : Int) (_hm : (Lit.int .i64 m).wf = true) (w : World) (hT : TabAt w) : Calls Tryd.prog 3 #[.int .u32 a, .int .i64 l, .int .i64 m] w fun e w' => e = .returned (.bool true) ∧ Below w.heap.size w w' := by
  obtain ⟨n, rfl, hn⟩ := nat_u32 ha
  exact plays_any n hn l m w hT
theorem halvesLaw (a : Int) (ha : (Lit.int .u8 a).wf = true) (b : Int) (hb : (Lit.int .u8 b).wf = true) (w : World) (hT : TabAt w) : Calls Tryd.prog 4 #[.int .u8 a, .int .u8 b] w fun e w' => e = .returned (.bool true) ∧ Below w.heap.size w w' := by
  obtain ⟨m, rfl, hm⟩ := nat_u8 ha
  obtain ⟨n, rfl, hn⟩ := nat_u8 hb
  exact (halves_any m n hm hn w hT).mono same_below
theorem unlikeLaw (a : Int) (ha : (Lit.int .u32 a).wf = true) (b : Int) (hb : (Lit.int .u32 b).wf = true) (w : World) (hT : TabAt w) : Calls Tryd.prog 5 #[.int .u32 a, .int .u32 b] w fun e w' => e = .returned (.bool true) ∧ Below w.heap.size w w' := by
  obtain ⟨m, rfl, hm⟩ := nat_u32 ha
  obtain ⟨n, rfl, hn⟩ := nat_u32 hb
  exact (unlike_any m n hm hn w hT).mono same_below
theorem levelsLaw (a : Int) (ha : (Lit.int .u32 a).wf = true) (b : Int) (hb : (Lit.int .u8 b).wf = true) (c : Int) (hc : (Lit.int .u8 c).wf = true) (w : World) (hT : TabAt w) : Calls Tryd.prog 6 #[.int .u32 a, .int .u8 b, .int .u8 c] w fun e w' => e = .returned (.bool true) ∧ Below w.heap.size w w' := by
  obtain ⟨n, rfl, hn⟩ := nat_u32 ha
  obtain ⟨x, rfl, hx⟩ := nat_u8 hb
  obtain ⟨y, rfl, hy⟩ := nat_u8 hc
  exact (levels_any n x y hn hx hy w hT).mono same_below
end Go.Proofs.YtfpmijdkgghmeaaDoor
