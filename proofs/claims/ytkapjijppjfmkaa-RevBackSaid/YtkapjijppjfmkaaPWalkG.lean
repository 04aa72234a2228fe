/- What the reference's Build answers of any keys: the same table, in a block of the call's own. Conditions: at most 1000 keys, each of at most 1000000 bytes, which stand in memory. -/
import Derived.Test.YtkapjijppjfmkaaPWalkF
namespace Go.Proofs.Ytkapjijppjfmkaa
open Go.RowKit Go.Op
set_option maxRecDepth 100000

set_option maxHeartbeats 4000000 in
theorem refbuild_any (a : Option Addr) (ks : List ByteArray) (c : Nat) (w : World) (hK : Keys w a ks) (hl : ks.length ≤ 1000) (hs : ∀ x ∈ ks, x.size ≤ 1000000) :
    Calls Try.prog 35 #[.slice a ks.length c] w fun e w' => ∃ g, e = .returned (.slice (some ⟨g, 0, none⟩) (build ks).length (build ks).length) ∧ w.heap.size ≤ g ∧ Tab w' g (build ks) ∧ Below w.heap.size w w' := by
  have hz := fun w => refsize_any ks.length (by omega) w
  have hm := sz_top (n := ks.length) (k := 10) (by omega)
  have hm2 := sz_two ks.length
  have hlen := fun i => tab_length ks i
  have hbl := build_length ks
  obtain ⟨m, em⟩ : ∃ m, m = sz ks.length := ⟨_, rfl⟩
  rw [← em] at hz hm hm2
  simp only [← em] at hlen hbl
  obtain ⟨W, hmk, ht, hb⟩ := made_tab w m (by omega)
  have ht0 : Tab W w.heap.size (tab ks 0) := by unfold tab; rw [← em]; exact ht
  have HK := Lib.hid hK
  have HS := Lib.hid hs
  have HL := Lib.hid hlen
  have HB := Lib.hid hbl
  clear hK hs hlen hbl em ht
  go_enter Try.func35, Try.ntmps35
  go_wp2_with fail
  refine (hz _).mono ?_
  rintro e w1 ⟨rfl, rfl⟩
  go_wp2
  go_loopw [5] (fun iv wr => ∃ i : Nat, i ≤ ks.length ∧ iv = .int .i64 (i : Int) ∧ Tab wr w.heap.size (tab ks i) ∧ Below w.heap.size w wr) (fun iv _ => ks.length - (intOf iv).toNat)
  case atStart => exact ⟨0, by omega, rfl, ht0, hb⟩
  case round =>
    obtain ⟨i, hi, rfl, htr, hbr⟩ := hrel
    obtain ⟨wo, hwo⟩ : ∃ wo, wo = wr := ⟨_, rfl⟩
    subst hwo
    by_cases h1 : i < ks.length
    · have i1 : (i : Int) < (ks.length : Int) := by omega
      have HSt := Lib.hid (tab_step h1)
      have hroom := tab_room ks h1
      have hTl := HL.out i
      have hkc : ∃ g2 off2, a = some ⟨g2, off2, none⟩ ∧ wo.cell? ⟨g2, off2 + i, none⟩ = some (.string ks[i]) := by
        rcases HK.out with h0 | ⟨g2, off2, rfl, hlt, hc⟩
        · rw [h0] at h1; simp at h1
        · exact ⟨g2, off2, rfl, by rw [hbr.cell (p := ⟨g2, off2 + i, none⟩) hlt]; exact hc i h1⟩
      obtain ⟨g2, off2, rfl, hkcell⟩ := hkc
      have hksz := HS.out _ (List.getElem_mem h1)
      generalize ks[i] = k at HSt hkcell hksz
      generalize tab ks i = T at htr HSt hroom hTl
      have hh := hole_lt (s := first T k) hroom
      have hf := fun j (hj : j ≤ 1000000) w => slot_any m k j hksz (by omega) (by omega) (by omega) w
      have ef : sum k % m = first T k := by rw [← hTl]; rfl
      simp only [ef] at hf
      have HF := Lib.hid hf
      have hfl : first T k < m := by rw [← hTl]; exact first_lt (by omega)
      have HR := Lib.hid (fun j (h : j ≤ hole T (first T k)) => round_hole (by rw [hTl]; exact hfl) hh h)
      rw [hTl] at hh
      have HT := Lib.hid htr
      have HTl := Lib.hid hTl
      unfold put at HSt
      rw [hTl] at HSt
      clear htr hTl ef hroom hf
      generalize first T k = s at hh HF hfl HR HSt
      go_wp2
      go_loop [6] (fun jv => ∃ j : Nat, j ≤ hole T s ∧ jv = .int .i64 (j : Int)) (fun jv => m - (intOf jv).toNat)
      case atStart => exact ⟨0, by omega, rfl⟩
      case round =>
        obtain ⟨j, hj, rfl⟩ := hrel
        obtain ⟨v, hv, hcase⟩ := HR.out j hj
        rw [HTl.out] at hv
        have hpl : (s + j) % m < m := Nat.mod_lt _ (by omega)
        have hpl1 : (((s + j) % m : Nat) : Int) < (m : Int) := by omega
        have hcell : wo.cell? ⟨w.heap.size, (s + j) % m, none⟩ = some (.int .i64 v) := by
          rw [HT.out.cell _ (by rw [HTl.out]; exact hpl)]
          rw [List.getElem?_eq_getElem (by rw [HTl.out]; exact hpl)] at hv
          rw [Option.some.inj hv]
        have hfree := HT.out.free ((s + j) % m)
        have hsl := fun w => HF.out j (by omega) w
        rcases hcase with ⟨h2, h3⟩ | ⟨h2, h3⟩
        · subst h2
          have hset := HT.out.set (p := (s + j) % m) (by rw [HTl.out]; exact hpl) ((i : Int) + 1)
          rw [← h3, ← HSt.out] at hset
          rw [h3] at hset
          clear h3 hv
          generalize (s + j) % m = p at hpl hpl1 hcell hfree hset hsl
          go_wp2_with fail
          refine (hsl _).mono ?_
          rintro e w1 ⟨rfl, rfl⟩
          go_wp2_with fail
          refine (hsl _).mono ?_
          rintro e w1 ⟨rfl, rfl⟩
          go_wp2
          go_roundw
          case rel => exact ⟨i + 1, by omega, by go_num, hset, hbr.setCell (Nat.le_refl _) _⟩
          case measure => simp [intOf]; omega
        · have e1 : (v != 0) = true := by simpa using h2
          clear hv
          generalize (s + j) % m = p at hpl hpl1 hcell hfree hsl
          go_wp2_with fail
          refine (hsl _).mono ?_
          rintro e w1 ⟨rfl, rfl⟩
          go_wp2
          go_round
          case rel => exact ⟨j + 1, h3, by go_num⟩
          case measure => simp [intOf]; omega
    · obtain rfl : i = ks.length := by omega
      clear hz
      go_wp2
      go_ret
      exact ⟨_, by rw [HB.out]; rfl, Nat.le_refl _, htr, hbr⟩
end Go.Proofs.Ytkapjijppjfmkaa
