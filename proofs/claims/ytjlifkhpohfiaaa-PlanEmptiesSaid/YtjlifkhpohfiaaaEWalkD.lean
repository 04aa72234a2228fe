/- What rev.Entries answers of any revision: its entries, in a row of the call's own. Conditions: at most 1000000 entries. -/
import Derived.Test.YtjlifkhpohfiaaaEWalkC
import Derived.Deep.RegionHeld3
namespace Go.Proofs.Ytjlifkhpohfiaaa
open Go.RowKit Go.Op
set_option maxRecDepth 100000

def en0 : En := ⟨⟨#[]⟩, ⟨#[]⟩, false⟩
theorem made_row (n : Nat) : (madeCells (Value.agg #[.string ⟨#[]⟩, .string ⟨#[]⟩, .bool false]).cells (n * 3)).toList = enRow (List.replicate n en0) := by
  have e : (Value.agg #[.string ⟨#[]⟩, .string ⟨#[]⟩, .bool false]).cells = #[.string ⟨#[]⟩, .string ⟨#[]⟩, .bool false] := rfl
  rw [e]
  apply List.ext_getElem?
  intro j
  by_cases hj : j < n * 3
  · have hk : j / 3 < (List.replicate n en0).length := by rw [List.length_replicate]; omega
    obtain ⟨e1, e2, e3⟩ := enRow_get (List.replicate n en0) (j / 3) hk
    rw [List.getElem_replicate] at e1 e2 e3
    have hm : (madeCells #[Value.string ⟨#[]⟩, .string ⟨#[]⟩, .bool false] (n * 3)).toList[j]? = some (#[Value.string ⟨#[]⟩, .string ⟨#[]⟩, .bool false][j % 3]!) := by
      simp [madeCells, hj]
    rw [hm]
    have hr : j % 3 < 3 := Nat.mod_lt _ (by decide)
    have hjj : j = j / 3 * 3 + j % 3 := by omega
    generalize j / 3 = q at *
    generalize j % 3 = r at *
    match r, hr with
    | 0, _ => rw [hjj, Nat.add_zero, e1]; rfl
    | 1, _ => rw [hjj, e2]; rfl
    | 2, _ => rw [hjj, e3]; rfl
  · have h1 : (enRow (List.replicate n en0))[j]? = .none := List.getElem?_eq_none (by rw [enRow_length, List.length_replicate]; omega)
    rw [h1]
    exact List.getElem?_eq_none (by simp [madeCells]; omega)
theorem made_ents (w : World) (n : Nat) (hn : n ≤ 1000000) : ∃ W, (Instr.makeSlice 72 (.int .i64 (n : Int)) (.int .i64 (n : Int))).run Try.prog w = .ok (.slice (some ⟨w.heap.size, 0, none⟩) n n) W ∧ Hid (OwnE 77 W w.heap.size (.slice (some ⟨w.heap.size, 0, none⟩) n n) (List.replicate n en0)) ∧ Hid (Below w.heap.size w W) ∧ w.heap.size < W.heap.size := by
  obtain ⟨i0, hi, hz0, hz1, hz2⟩ := info_parts info72
  obtain ⟨W, h1, h2, h3⟩ := run_make_full (P := Try.prog) w w.heap.size 72 77 i0 _ 3 Try.underlying72 hi hz0 hz1 .i64 .i64 n (by rw [hz2]; omega) (by unfold maxLen; omega) (Nat.le_refl _)
  have ho : OwnE 77 W w.heap.size (.slice (some ⟨w.heap.size, 0, none⟩) n n) (List.replicate n en0) := by
    unfold OwnE
    rw [List.length_replicate, ← made_row]
    exact h2
  exact ⟨W, h1, Lib.hid ho, Lib.hid ((Below.refl _ _).grown h3 (Nat.le_refl _) (fun k hk => by cases hk)), ho.cap.2.2.2⟩
theorem take_next {M l : List En} {i : Nat} (hi : i < l.length) (hM : M.length = l.length) (h : M.take i = l.take i) : (M.set i l[i]).take (i + 1) = l.take (i + 1) := by
  rw [List.take_succ_eq_append_getElem (by rw [List.length_set]; omega), List.getElem_set_self, List.take_set_of_le (Nat.le_refl i), h, List.take_succ_eq_append_getElem hi]
theorem fkeepN {w1 w2 : World} {p o : Nat} {x : Bool} (hb : Below w1.heap.size w1 w2) (h : w1.frozen? ⟨p, o, none⟩ = x) (hp : p < w1.heap.size) : w2.frozen? ⟨p, o, none⟩ = x := by
  rw [hb.frozen (p := ⟨p, o, none⟩) hp]; exact h

set_option maxHeartbeats 8000000 in
theorem entries_any (R : Rm) (s : Rs) (w : World) (hl : R.l.length ≤ 1000000) (hR : RevAt w R s) :
    Calls Try.prog 26 #[R.v s] w fun e w' => ∃ g, e = .returned (.slice (some ⟨g, 0, none⟩) R.l.length R.l.length) ∧ w.heap.size < g ∧ OwnE 77 w' g (.slice (some ⟨g, 0, none⟩) R.l.length R.l.length) R.l ∧ Below w.heap.size w w' := by
  have hct := fun w => count_any R s w
  obtain ⟨hk, hv, hg, _⟩ := hR
  obtain ⟨ver, rate, sp, dead, l, tab⟩ := R
  obtain ⟨lo, hi, all⟩ := sp
  obtain ⟨ka, kc, va, vc, ga, gc, ta, tc⟩ := s
  simp only [Rm.v] at hk hv hg hl hct ⊢
  have HK := Lib.hid hk
  have HV := Lib.hid hv
  have HG := Lib.hid hg
  clear hk hv hg
  go_enter Try.func26, Try.ntmps26
  go_wp2_with fail
  refine (hct _).mono ?_
  rintro e w1 ⟨rfl, b1⟩
  have s1 := b1.size
  simp at s1
  have c6 : w1.cell? ⟨w.heap.size, 6, none⟩ = some (.slice ka l.length kc) := keep b1 (by simp [go_sem]) (by simp)
  have c7 : w1.cell? ⟨w.heap.size, 7, none⟩ = some (.slice va l.length vc) := keep b1 (by simp [go_sem]) (by simp)
  have c8 : w1.cell? ⟨w.heap.size, 8, none⟩ = some (.slice ga l.length gc) := keep b1 (by simp [go_sem]) (by simp)
  have B1 : Below w.heap.size w w1 := ((Below.refl w.heap.size w).alloc (Nat.le_refl _) _).trans (b1.mono (by simp))
  obtain ⟨W, hmk, hoW, hbW, hsW⟩ := made_ents w1 l.length hl
  have HC : Hid (W.cell? ⟨w.heap.size, 6, none⟩ = some (.slice ka l.length kc) ∧ W.cell? ⟨w.heap.size, 7, none⟩ = some (.slice va l.length vc) ∧ W.cell? ⟨w.heap.size, 8, none⟩ = some (.slice ga l.length gc)) := Lib.hid ⟨keep hbW.out c6 (by omega), keep hbW.out c7 (by omega), keep hbW.out c8 (by omega)⟩
  have HB1 := Lib.hid (B1.trans (hbW.out.mono (by omega)))
  have HW0 := Lib.hid (Below.refl w1.heap.size W)
  clear c6 c7 c8 B1 b1
  go_wp2
  go_loopw [10] (fun iv wr => ∃ (i : Nat) (M : List En), iv = .int .i64 (i : Int) ∧ i ≤ l.length ∧ M.length = l.length ∧ Hid (M.take i = l.take i) ∧ Hid (OwnE 77 wr w1.heap.size (.slice (some ⟨w1.heap.size, 0, none⟩) l.length l.length) M) ∧ Hid (Below w1.heap.size W wr)) (fun iv _ => l.length - (intOf iv).toNat)
  case atStart => exact ⟨0, _, rfl, by omega, List.length_replicate, Lib.hid rfl, hoW, HW0⟩
  case round =>
    obtain ⟨i, M, rfl, hil, hM, H1, HW, HBw⟩ := hrel
    have sW := HBw.out.size
    by_cases h1 : i < l.length
    · have i1 : (i : Int) < (l.length : Int) := by omega
      obtain ⟨kb, ko, ek, hkb, kcell⟩ := HK.out.at (k := i) (by rw [List.length_map]; exact h1)
      obtain ⟨vb, vo, ev, hvb, vcell⟩ := HV.out.at (k := i) (by rw [List.length_map]; exact h1)
      obtain ⟨gb, go, eg, hgb, gcell⟩ := HG.out.at (k := i) (by rw [List.length_map]; exact h1)
      rw [List.getElem_map] at kcell vcell gcell
      subst ek ev eg
      have bw : Below w.heap.size w wr := HB1.out.trans (HBw.out.mono (by omega))
      have k1 : wr.cell? ⟨kb, ko + i, none⟩ = some (.string l[i].key) := keep bw kcell hkb
      have v1 : wr.cell? ⟨vb, vo + i, none⟩ = some (.string l[i].val) := keep bw vcell hvb
      have g1 : wr.cell? ⟨gb, go + i, none⟩ = some (.bool l[i].gone) := keep bw gcell hgb
      have HN := Lib.hid (take_next h1 hM H1.out)
      generalize l[i] = x at k1 v1 g1 HN
      obtain ⟨q1, q2, q3⟩ := HC.out
      have c6 : wr.cell? ⟨w.heap.size, 6, none⟩ = some (.slice (some ⟨kb, ko, none⟩) l.length kc) := by rw [HBw.out.cell (p := ⟨w.heap.size, 6, none⟩) (by show w.heap.size < _; omega)]; exact q1
      have c7 : wr.cell? ⟨w.heap.size, 7, none⟩ = some (.slice (some ⟨vb, vo, none⟩) l.length vc) := by rw [HBw.out.cell (p := ⟨w.heap.size, 7, none⟩) (by show w.heap.size < _; omega)]; exact q2
      have c8 : wr.cell? ⟨w.heap.size, 8, none⟩ = some (.slice (some ⟨gb, go, none⟩) l.length gc) := by rw [HBw.out.cell (p := ⟨w.heap.size, 8, none⟩) (by show w.heap.size < _; omega)]; exact q3
      have hWM : OwnE 77 wr w1.heap.size (.slice (some ⟨w1.heap.size, 0, none⟩) M.length l.length) M := by rw [hM]; exact HW.out
      obtain ⟨y1, y2, y3⟩ := hWM.at (i := i) (by omega)
      have f1 := World.ownsRow.frozenAt hWM (i * 3)
      have f2 := World.ownsRow.frozenAt hWM (i * 3 + 1)
      have f3 := World.ownsRow.frozenAt hWM (i * 3 + 2)
      generalize M[i]'(by omega) = y at y1 y2 y3
      have hset := hWM.set (i := i) (by omega) x
      rw [hM] at hset
      have HSet := Lib.hid hset
      have HBn := Lib.hid (((HBw.out.setCell (p := ⟨w1.heap.size, i * 3, none⟩) (Nat.le_refl _) (.string x.key)).setCell (p := ⟨w1.heap.size, i * 3 + 1, none⟩) (Nat.le_refl _) (.string x.val)).setCell (p := ⟨w1.heap.size, i * 3 + 2, none⟩) (Nat.le_refl _) (.bool x.gone))
      clear hset hWM kcell vcell gcell q1 q2 q3
      obtain ⟨k, v, gn⟩ := x
      simp only at k1 v1 g1
      go_wp2_with fail
      go_region
      go_wp2
      go_roundw
      case rel => exact ⟨i + 1, M.set i ⟨k, v, gn⟩, by go_num, by omega, by rw [List.length_set]; exact hM, HN, HSet, Lib.hid (drew_below HBn.out)⟩
      case measure => simp [intOf]; omega
    · obtain rfl : i = l.length := by omega
      have i1 : ¬ (l.length : Int) < (l.length : Int) := by omega
      have e : M = l := by have := H1.out; rwa [List.take_of_length_le (by omega), List.take_length] at this
      subst e
      go_wp2
      go_ret
      exact ⟨w1.heap.size, rfl, by omega, HW.out, HB1.out.trans (HBw.out.mono (by omega))⟩
end Go.Proofs.Ytjlifkhpohfiaaa
