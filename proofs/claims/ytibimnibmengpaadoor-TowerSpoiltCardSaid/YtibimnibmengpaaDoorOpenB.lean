/- The library's table, out of the row's condition; rows of texts, and of bytes, read as data. No condition of its own. -/
import Derived.Test.YtibimnibmengpaaDoorTq
import Derived.Test.YtibimnibmengpaaDoorRows
import Derived.ProofKit
import Derived.OpenShut
import Derived.Lib.LaidTab
import Derived.MakeChecks
import Derived.Deep.Slices
import Derived.Deep.Fields
import Derived.SliceStrings
import Derived.ChangeOld
namespace Go.Proofs.YtibimnibmengpaaDoor
open Go.RowKit Go.ChangeShapes Go.WideShapes Go.ChangeAt Go.Deep
set_option maxRecDepth 100000
theorem tab_of_laid {W : World} (h : laidMetH Tryd.prog [("math/bits.deBruijn64tab", Rows.laid_math_bits_deBruijn64tab)] W) : TabAt W := by
  rw [MakeChecks.laidMetH_plain _ _ _ (by kernel_rfl)] at h
  have hT : Lib.TabIs Tryd.prog W "math/bits.deBruijn64tab" .u8 (Lib.deBruijn64tab.map fun (n : Nat) => (n : Int)) :=
    Lib.tabIs_of_head (g := 0) (t := 173) (e := 5) (n := 64) (by kernel_rfl) (by kernel_rfl) (by kernel_rfl) (by kernel_rfl) (by kernel_rfl) (by kernel_rfl) h
  intro j hj
  have hc := hT.cell (g := 0) (by kernel_rfl) j (by rw [List.length_map]; exact hj)
  rw [hc]
  clear hc hT h
  congr 2
  revert j
  decide
theorem laidOut : laidOutB Tryd.prog = true := by kernel_rfl
theorem wf64 {n : Int} (h : (Lit.int .i64 n).wf = true) : -9223372036854775808 ≤ n ∧ n ≤ 9223372036854775807 := by
  simp [Lit.wf, IntKind.min, IntKind.max, IntKind.signed, IntKind.bits] at h
  exact ⟨by omega, by omega⟩
theorem wf8 {n : Int} (h : (Lit.int .u8 n).wf = true) : 0 ≤ n ∧ n ≤ 255 := by
  simp [Lit.wf, IntKind.min, IntKind.max, IntKind.signed, IntKind.bits] at h
  exact ⟨by omega, by omega⟩
section
variable {H : Type} {enc : TypeId × Value → H} {w : World} {base : Nat} {held : Bool}
theorem open_bys {spare : Nat → Bool} {a : Option Addr} {len cap : Nat} {d : DataW H} {p : List MemPlace} (h : DataW.Trod enc Tryd.prog w base spare held 23 (.slice a len cap) d p) (hsp : ∀ n, spare n = true) :
    ∃ us : List Nat, us.length = len ∧ UArg w a us ∧ us.length ≤ 9223372036854775807 := by
  obtain ⟨fuel, hf⟩ := h
  rcases open_ints Tryd.underlying23 Tryd.underlying5 (by kernel_rfl) hf with ⟨hcs, _⟩ | ⟨x, l, c, zs, hcs, _, hl, hm, hz, _, hcell, hwz⟩
  · simp [Value.cells] at hcs
    obtain ⟨rfl, rfl, rfl⟩ := hcs
    exact ⟨[], rfl, ⟨fun b hb => (by cases hb), .inl rfl⟩, by decide⟩
  · simp [Value.cells] at hcs
    obtain ⟨rfl, rfl, rfl⟩ := hcs
    rw [hsp, if_pos rfl] at hz
    have hmx : cap ≤ 9223372036854775807 := hm
    have e : (zs.take len).length = len := by rw [List.length_take]; omega
    refine ⟨(zs.take len).map Int.toNat, by simpa using e, ⟨fun b hb => ?_, ?_⟩, by rw [List.length_map, e]; omega⟩
    · obtain ⟨z, hz2, rfl⟩ := List.mem_map.1 hb
      have := wf8 (hwz z (List.mem_of_mem_take hz2))
      omega
    by_cases h0 : len = 0
    · subst h0
      exact .inl (by simp)
    · obtain ⟨b, off, spot⟩ := x
      have hc := hcell 0 (by omega)
      have hspot : spot = none := by simpa [Addr.add] using World.cell?_spot hc
      subst hspot
      refine .inr ⟨b, off, rfl, World.block_lt_of_cell? w _ hc, fun k u hu => ?_⟩
      rw [u8s, List.getElem?_map, List.getElem?_map] at hu
      cases hzk : (zs.take len)[k]? with
      | none => rw [hzk] at hu; cases hu
      | some z =>
        rw [hzk] at hu
        cases hu
        have hk := (List.getElem?_eq_some_iff.1 hzk).1
        have hk' : k < zs.length := by rw [e] at hk; omega
        have h3 := hcell k hk'
        have h4 := wf8 (hwz z (List.mem_of_mem_take (List.mem_of_getElem? hzk)))
        rw [List.getElem?_take_of_lt (by omega)] at hzk
        rw [show (⟨b, off, none⟩ : Addr).add k = ⟨b, off + k, none⟩ from by simp [Addr.add], List.getD_eq_getElem?_getD, hzk] at h3
        rw [h3]
        simp only [Option.getD_some]
        congr 2
        omega
theorem open_keys {spare : Nat → Bool} {a : Option Addr} {len cap : Nat} {d : DataW H} {p : List MemPlace} (h : DataW.Trod enc Tryd.prog w base spare held 22 (.slice a len cap) d p) (hsp : ∀ n, spare n = true) :
    ∃ ks : List ByteArray, ks.length = len ∧ KArg w (.slice a ks.length cap) ks ∧ ks.length ≤ 9223372036854775807 := by
  obtain ⟨fuel, hf⟩ := h
  rcases open_strings Tryd.underlying22 Tryd.underlying9 (by kernel_rfl) hf with ⟨hcs, _⟩ | ⟨x, l, c, ss, hcs, _, hl, hm, hz, _, hcell, hsz⟩
  · simp [Value.cells] at hcs
    obtain ⟨rfl, rfl, rfl⟩ := hcs
    exact ⟨[], rfl, .inl ⟨rfl, rfl⟩, by decide⟩
  · simp [Value.cells] at hcs
    obtain ⟨rfl, rfl, rfl⟩ := hcs
    rw [hsp, if_pos rfl] at hz
    have hmx : cap ≤ 9223372036854775807 := hm
    have e : (ss.take len).length = len := by rw [List.length_take]; omega
    refine ⟨ss.take len, e, ?_, by rw [e]; omega⟩
    refine .inr ⟨x, cap, by rw [e], ?_⟩
    by_cases h0 : len = 0
    · subst h0
      exact .inl (by simp)
    · obtain ⟨b, off, spot⟩ := x
      have hc := hcell 0 (by omega)
      have hspot : spot = none := by simpa [Addr.add] using World.cell?_spot hc
      subst hspot
      refine .inr ⟨b, off, rfl, World.block_lt_of_cell? w _ hc, fun k u hu => ?_⟩
      rw [strs, List.getElem?_map] at hu
      cases hzk : (ss.take len)[k]? with
      | none => rw [hzk] at hu; cases hu
      | some z =>
        rw [hzk] at hu
        cases hu
        have hk := (List.getElem?_eq_some_iff.1 hzk).1
        have h3 := hcell k (by rw [e] at hk; omega)
        rw [List.getElem?_take_of_lt (by omega)] at hzk
        rw [show (⟨b, off, none⟩ : Addr).add k = ⟨b, off + k, none⟩ from by simp [Addr.add], List.getD_eq_getElem?_getD, hzk] at h3
        rw [h3]
        rfl
end
end Go.Proofs.YtibimnibmengpaaDoor
