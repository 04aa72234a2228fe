/- What the code's Build answers of any keys: the table, in a block of the call's own. Conditions: at most 1000 keys, each of at most 1000000 bytes, which stand in memory. -/
import Derived.Test.YtjlifkhpohfiaaaPWalkD
import Derived.Laws.MakeOwn
namespace Go.Proofs.Ytjlifkhpohfiaaa
open Go.RowKit Go.Op
set_option maxRecDepth 100000

/-- Numbers in a block of the call's own. -/
structure Tab (w : World) (g : Nat) (T : List Int) : Prop where
  lt : g < w.heap.size
  cell : ∀ i (h : i < T.length), w.cell? ⟨g, i, none⟩ = some (.int .i64 (T[i]'h))
  free : ∀ i, w.frozen? ⟨g, i, none⟩ = false
theorem Tab.nums {w : World} {g : Nat} {T : List Int} (h : Tab w g T) : Nums w (some ⟨g, 0, none⟩) T :=
  .inr ⟨g, 0, rfl, h.lt, fun k hk => by rw [Nat.zero_add]; exact h.cell k hk⟩
theorem Tab.below {w w' : World} {g : Nat} {T : List Int} (h : Tab w g T) (hb : Below w.heap.size w w') : Tab w' g T :=
  ⟨Nat.lt_of_lt_of_le h.lt hb.size, fun i hi => by rw [hb.cell (p := ⟨g, i, none⟩) h.lt]; exact h.cell i hi, fun i => by rw [hb.frozen (p := ⟨g, i, none⟩) h.lt]; exact h.free i⟩
theorem Tab.set {w : World} {g : Nat} {T : List Int} (h : Tab w g T) {p : Nat} (hp : p < T.length) (v : Int) : Tab (w.setCell ⟨g, p, none⟩ (.int .i64 v)) g (T.set p v) := by
  refine ⟨?_, fun i hi => ?_, fun i => ?_⟩
  · rw [show (w.setCell ⟨g, p, none⟩ (.int .i64 v)).heap.size = w.heap.size by simp [World.setCell]]; exact h.lt
  · have hi2 := hi
    rw [List.length_set] at hi2
    by_cases e : i = p
    · subst e
      rw [World.cell?_setCell_same w ⟨g, i, none⟩ _ (h.cell i hi2), List.getElem_set_self]
    · rw [World.cell?_setCell_other w ⟨g, p, none⟩ ⟨g, i, none⟩ _ (by simp only [ne_eq, Addr.mk.injEq, true_and, and_true]; omega), h.cell i hi2, List.getElem_set_ne (by omega)]
  · rw [World.frozen?_setCell]
    exact h.free i
theorem info3 : (Try.prog.info? 3).map (fun i => (i.zero, i.size, i.bytes)) = some (some (.int .i64 0), 1, 8) := by kernel_rfl
theorem made_tab (w : World) (m : Nat) (hm : m ≤ 1000000) : ∃ W, (Instr.makeSlice 35 (.int .i64 (m : Int)) (.int .i64 (m : Int))).run Try.prog w = .ok (.slice (some ⟨w.heap.size, 0, none⟩) m m) W ∧ Tab W w.heap.size (List.replicate m 0) ∧ Below w.heap.size w W := by
  obtain ⟨i0, hi, hz0, hz1, hz2⟩ := info_parts info3
  have hr := run_make (P := Try.prog) w 35 3 i0 (.int .i64 0) Try.underlying35 hi hz0 .i64 .i64 (m : Int) (m : Int) (by omega) (by omega) (by rw [hz2]; omega) (by omega)
  simp only [Int.toNat_natCast, hz1, Nat.mul_one] at hr
  refine ⟨_, hr, ⟨by simp, fun i hi => ?_, fun i => ?_⟩, (Below.refl _ _).alloc (Nat.le_refl _) _⟩
  · rw [List.length_replicate] at hi
    rw [World.cell?_alloc_new]
    simp only [madeCells, Array.getElem?_map, Array.getElem?_range, hi, if_true, Option.map_some, List.getElem_replicate]
    have e : (Value.int .i64 0).cells = #[Value.int .i64 0] := rfl
    rw [e]
    simp [Nat.mod_one]
  · exact World.frozen?_alloc_at _ 3 _ i rfl

theorem back_slot {s j m : Nat} (hs : s < m) (hj : j < m) : ((s + j) % m + m - s) % m = j := by
  rw [wrap_lt hs hj]
  split
  · rw [show s + j + m - s = j + m by omega, Nat.add_mod_right, Nat.mod_eq_of_lt hj]
  · rw [show s + j - m + m - s = j by omega, Nat.mod_eq_of_lt hj]
/-- One round of the search for a hole. -/
theorem round_hole {T : List Int} {s j : Nat} (hs : s < T.length) (hh : hole T s < T.length) (h : j ≤ hole T s) :
    ∃ v, T[(s + j) % T.length]? = some v ∧ ((v = 0 ∧ hole T s = j) ∨ (v ≠ 0 ∧ j + 1 ≤ hole T s)) := by
  refine ⟨_, List.getElem?_eq_getElem (Nat.mod_lt _ (by omega)), ?_⟩
  rcases Nat.lt_or_ge j (hole T s) with h1 | h1
  · exact .inr ⟨hole_before hs h1 (by omega), h1⟩
  · obtain rfl : hole T s = j := by omega
    exact .inl ⟨hole_zero hs hh, rfl⟩

set_option maxHeartbeats 4000000 in
theorem build_any (a : Option Addr) (ks : List ByteArray) (c : Nat) (w : World) (hK : Keys w a ks) (hl : ks.length ≤ 1000) (hs : ∀ x ∈ ks, x.size ≤ 1000000) :
    Calls Try.prog 59 #[.slice a ks.length c] w fun e w' => ∃ g, e = .returned (.slice (some ⟨g, 0, none⟩) (build ks).length (build ks).length) ∧ w.heap.size ≤ g ∧ Tab w' g (build ks) ∧ Below w.heap.size w w' := by
  have hz := fun w => size_any (ks.length : Int) (by omega) w
  simp only [Int.toNat_natCast] at hz
  have hm := sz_top (n := ks.length) (k := 10) (by omega)
  have hm2 := sz_two ks.length
  have hlen := fun i => tab_length ks i
  have hbl := build_length ks
  obtain ⟨m, em⟩ : ∃ m, m = sz ks.length := ⟨_, rfl⟩
  rw [← em] at hz hm hm2
  simp only [← em] at hlen hbl
  obtain ⟨W, hmk, ht, hb⟩ := made_tab w m (by omega)
  have ht0 : Tab W w.heap.size (tab ks 0) := by unfold tab; rw [← em]; exact ht
  have HK := Lib.hid hK
  have HS := Lib.hid hs
  have HL := Lib.hid hlen
  have HB := Lib.hid hbl
  clear hK hs hlen hbl em ht
  go_enter Try.func59, Try.ntmps59
  go_wp2_with fail
  refine (hz _).mono ?_
  rintro e w1 ⟨rfl, rfl⟩
  go_wp2
  go_loopw [13] (fun iv wr => ∃ i : Nat, i ≤ ks.length ∧ iv = .int .i64 (i : Int) ∧ Tab wr w.heap.size (tab ks i) ∧ Below w.heap.size w wr) (fun iv _ => ks.length - (intOf iv).toNat)
  case atStart => exact ⟨0, by omega, rfl, ht0, hb⟩
  case round =>
    obtain ⟨i, hi, rfl, htr, hbr⟩ := hrel
    obtain ⟨wo, hwo⟩ : ∃ wo, wo = wr := ⟨_, rfl⟩
    subst hwo
    by_cases h1 : i < ks.length
    · have i1 : (i : Int) < (ks.length : Int) := by omega
      have HSt := Lib.hid (tab_step h1)
      have hroom := tab_room ks h1
      have hTl := HL.out i
      have hkc : ∃ g2 off2, a = some ⟨g2, off2, none⟩ ∧ wo.cell? ⟨g2, off2 + i, none⟩ = some (.string ks[i]) := by
        rcases HK.out with h0 | ⟨g2, off2, rfl, hlt, hc⟩
        · rw [h0] at h1; simp at h1
        · exact ⟨g2, off2, rfl, by rw [hbr.cell (p := ⟨g2, off2 + i, none⟩) hlt]; exact hc i h1⟩
      obtain ⟨g2, off2, rfl, hkcell⟩ := hkc
      have hksz := HS.out _ (List.getElem_mem h1)
      generalize ks[i] = k at HSt hkcell hksz
      generalize tab ks i = T at htr HSt hroom hTl
      have hh := hole_lt (s := first T k) hroom
      have hf := fun w => first_any k m hksz (by omega) (by omega) w
      have ef : sum k % m = first T k := by rw [← hTl]; rfl
      rw [ef] at hf
      have hfl : first T k < m := by rw [← hTl]; exact first_lt (by omega)
      have HR := Lib.hid (fun j (h : j ≤ hole T (first T k)) => round_hole (by rw [hTl]; exact hfl) hh h)
      rw [hTl] at hh
      have HT := Lib.hid htr
      have HTl := Lib.hid hTl
      have HBk := Lib.hid (fun j (hj : j < m) => back_slot hfl hj)
      unfold put at HSt
      rw [hTl] at HSt
      clear htr hTl ef hroom
      generalize first T k = s at hh hf hfl HR HBk HSt
      go_wp2_with fail
      refine (hf _).mono ?_
      rintro e w1 ⟨rfl, rfl⟩
      go_wp2
      go_loop [6] (fun pv => ∃ j : Nat, j ≤ hole T s ∧ pv = .int .i64 ((s + j) % m : Nat)) (fun pv => m - ((intOf pv).toNat + m - s) % m)
      case atStart => exact ⟨0, by omega, by rw [Nat.add_zero, Nat.mod_eq_of_lt hfl]⟩
      case round =>
        obtain ⟨j, hj, rfl⟩ := hrel
        obtain ⟨v, hv, hcase⟩ := HR.out j hj
        rw [HTl.out] at hv
        have hpl : (s + j) % m < m := Nat.mod_lt _ (by omega)
        have hpl1 : (((s + j) % m : Nat) : Int) < (m : Int) := by omega
        have hcell : wo.cell? ⟨w.heap.size, (s + j) % m, none⟩ = some (.int .i64 v) := by
          rw [HT.out.cell _ (by rw [HTl.out]; exact hpl)]
          rw [List.getElem?_eq_getElem (by rw [HTl.out]; exact hpl)] at hv
          rw [Option.some.inj hv]
        have hfree := HT.out.free ((s + j) % m)
        have hnx := fun w => next_any ((s + j) % m) m hpl (by omega) w
        rw [slot_next] at hnx
        have hb1 := HBk.out j (by omega)
        have HP := Lib.hid (rfl : (s + j) % m = (s + j) % m)
        rcases hcase with ⟨h2, h3⟩ | ⟨h2, h3⟩
        · subst h2
          have hset := HT.out.set (p := (s + j) % m) (by rw [HTl.out]; exact hpl) ((i : Int) + 1)
          rw [← h3, ← HSt.out] at hset
          rw [h3] at hset
          clear h3 hv hnx hb1
          generalize (s + j) % m = p at hpl hpl1 hcell hfree hset
          go_wp2
          go_roundw
          case rel => exact ⟨i + 1, by omega, by go_num, hset, hbr.setCell (Nat.le_refl _) _⟩
          case measure => simp [intOf]; omega
        · have e1 : (v != 0) = true := by simpa using h2
          have hb2 := HBk.out (j + 1) (by omega)
          obtain ⟨p2, hp2⟩ : ∃ p2, p2 = (s + (j + 1)) % m := ⟨_, rfl⟩
          have HP2 := Lib.hid hp2
          rw [← hp2] at hnx hb2
          have HM := Lib.hid (show m - (p2 + m - s) % m < m - ((s + j) % m + m - s) % m by rw [hb1, hb2]; omega)
          clear hv HP hp2 hb1 hb2
          generalize (s + j) % m = p at hpl hpl1 hcell hfree hnx HM
          go_wp2_with fail
          refine (hnx _).mono ?_
          rintro e w1 ⟨rfl, rfl⟩
          go_wp2
          go_round
          case rel => exact ⟨j + 1, h3, by rw [HP2.out]⟩
          case measure => exact HM.out
    · obtain rfl : i = ks.length := by omega
      clear hz
      go_wp2
      go_ret
      exact ⟨_, by rw [HB.out]; rfl, Nat.le_refl _, htr, hbr⟩
end Go.Proofs.Ytjlifkhpohfiaaa
