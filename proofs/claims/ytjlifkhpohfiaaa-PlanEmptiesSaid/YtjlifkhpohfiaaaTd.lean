/- What plan's closure, slices.IndexFunc over towers, plan.Leads and plan.Links answer. Condition: at most 100000 towers. -/
import Derived.Test.YtjlifkhpohfiaaaTc
namespace Go.Proofs.Ytjlifkhpohfiaaa
open Go.RowKit Go.Op
set_option maxRecDepth 100000

/-- Does a tower stay, and have so many links? -/
def stays (lv : Int) (t : Tw) : Bool := !t.gone && decide (lv < (t.cells.length : Int))
theorem stays_any (t : Tw) (q : Ts) (hl : t.cells.length ≤ 1000000) (lv : Int) (zl : Nat) (w : World) (h : w.cell? ⟨zl, 0, none⟩ = some (.int .i64 lv)) (hz : zl < w.heap.size) :
    Calls Try.prog 37 #[t.v q, .pointer (some ⟨zl, 0, none⟩)] w fun e w' => e = .returned (.bool (stays lv t)) ∧ Below w.heap.size w w' := by
  have HB := Lib.hid (al_below w (.cells #[.int .i64 t.h, .slice q.ca t.cells.length q.cc, .slice q.wa t.words.length q.wc, .bool t.gone] 57))
  have c0 : (w.alloc (.cells #[.int .i64 t.h, .slice q.ca t.cells.length q.cc, .slice q.wa t.words.length q.wc, .bool t.gone] 57)).cell? ⟨zl, 0, none⟩ = some (.int .i64 lv) := by
    rw [HB.out.cell (p := ⟨zl, 0, none⟩) hz]; exact h
  unfold Tw.v
  obtain ⟨n, hn⟩ : ∃ n, n = t.cells.length := ⟨_, rfl⟩
  have hn2 : (n : Int) ≤ 1000000 := by omega
  unfold stays
  rw [← hn] at HB c0 ⊢
  clear hn hl h hz
  cases hg : t.gone with
  | true =>
    rw [hg] at HB c0
    go_enter Try.func37, Try.ntmps37
    go_wp2
    go_ret
    exact ⟨rfl, HB.out⟩
  | false =>
    rw [hg] at HB c0
    by_cases hlv : lv < (n : Int)
    · have hd : decide (lv < (n : Int)) = true := decide_eq_true hlv
      rw [hd]
      go_enter Try.func37, Try.ntmps37
      go_wp2
      go_ret
      exact ⟨rfl, HB.out⟩
    · have hd : decide (lv < (n : Int)) = false := decide_eq_false hlv
      rw [hd]
      go_enter Try.func37, Try.ntmps37
      go_wp2
      go_ret
      exact ⟨rfl, HB.out⟩
/-- The first tower, from a place on, that stays and has so many links. -/
def firstT (l : List (Tw × Ts)) (lv : Int) (i : Nat) : Option Nat := if h : i < l.length then if stays lv (l[i]).1 then some i else firstT l lv (i + 1) else none
termination_by l.length - i
theorem firstT_at {l : List (Tw × Ts)} {lv : Int} {i : Nat} {x : Tw × Ts} (h : l[i]? = some x) : firstT l lv i = if stays lv x.1 then some i else firstT l lv (i + 1) := by
  obtain ⟨hi, rfl⟩ := List.getElem?_eq_some_iff.1 h
  rw [firstT, dif_pos hi]
theorem firstT_end {l : List (Tw × Ts)} {lv : Int} {i : Nat} (h : l.length ≤ i) : firstT l lv i = none := by rw [firstT, dif_neg (by omega)]
theorem firstT_some {l : List (Tw × Ts)} {lv : Int} {i j : Nat} (h : firstT l lv i = some j) : i ≤ j ∧ j < l.length := by
  unfold firstT at h
  split at h
  · split at h
    · cases h; omega
    · have := firstT_some h; omega
  · cases h
termination_by l.length - i
theorem firstT_drop (l : List (Tw × Ts)) (lv : Int) (d : Nat) : ∀ n i, n = l.length - (d + i) → firstT l lv (d + i) = (firstT (l.drop d) lv i).map (d + ·)
  | 0, i, h => by
    rw [firstT_end (by omega), firstT_end (by rw [List.length_drop]; omega)]; rfl
  | n + 1, i, h => by
    obtain ⟨x, hx⟩ : ∃ x, l[d + i]? = some x := ⟨_, List.getElem?_eq_getElem (by omega)⟩
    rw [firstT_at hx, firstT_at (l := l.drop d) (i := i) (x := x) (by rw [List.getElem?_drop]; exact hx)]
    split
    · rfl
    · exact firstT_drop l lv d n (i + 1) (by omega)
set_option maxHeartbeats 1000000 in
theorem indexT_any (w : World) (a : Option Addr) (cap : Nat) (l : List (Tw × Ts)) (h : TRow w a l) (hcap : l.length ≤ cap) (lv : Int) (zl : Nat) (hc : w.cell? ⟨zl, 0, none⟩ = some (.int .i64 lv)) (hz : zl < w.heap.size) :
    Calls Try.prog 36 #[.slice a l.length cap, .func (.func 37) #[] #[.pointer (some ⟨zl, 0, none⟩)]] w fun e w' => e = .returned (.int .i64 (ofO (firstT l lv 0))) ∧ Below w.heap.size w w' := by
  have few := h.few
  obtain ⟨n, hn⟩ : ∃ n, n = l.length := ⟨_, rfl⟩
  have HT := Lib.hid h
  have HN := Lib.hid (⟨hn, hcap⟩ : _ ∧ _)
  have HC := Lib.hid (⟨hc, hz⟩ : _ ∧ _)
  obtain ⟨F, hF⟩ : ∃ F, F = firstT l lv 0 := ⟨_, rfl⟩
  have HF := Lib.hid hF
  rw [← hn] at few ⊢
  rw [← hF]
  clear h hcap hn hc hz hF
  go_enter Try.func36, Try.ntmps36
  go_wp2_with fail
  go_loopw [8] (fun iv wr => ∃ j : Nat, iv = .int .i64 (j : Int) ∧ j ≤ n ∧ Hid (F = firstT l lv j ∧ Below w.heap.size w wr)) (fun iv _ => n - (intOf iv).toNat)
  case atStart => exact ⟨0, rfl, Nat.zero_le _, Lib.hid ⟨HF.out, Below.refl _ _⟩⟩
  case round =>
    obtain ⟨j, rfl, hj, HX⟩ := hrel
    by_cases hlt : j < n
    · have hlt2 : (j : Int) < (n : Int) := by omega
      obtain ⟨⟨x, q⟩, hx⟩ : ∃ x, l[j]? = some x := ⟨_, List.getElem?_eq_getElem (by rw [← HN.out.1]; exact hlt)⟩
      have hTr := HT.out.later HX.out.2
      obtain ⟨g, o, ea, hg, hr⟩ := hTr.at_ hx
      have hld := load_mid hr sh57
      have hat : ∀ W, (Instr.indexAt 28 (.slice a n cap) (.int .i64 (j : Int))).run Try.prog W = .ok (.pointer (some ⟨g, o + j * 4, none⟩)) W := fun W => by rw [ea]; exact at_28 g o n cap j hlt W
      have hst := stays_any x q (hTr.lk _ (List.mem_of_getElem? hx)).cf lv zl wr (by rw [HX.out.2.cell (p := ⟨zl, 0, none⟩) HC.out.2]; exact HC.out.1) (Nat.lt_of_lt_of_le HC.out.2 HX.out.2.size)
      have hF2 : F = if stays lv x then some j else firstT l lv (j + 1) := by rw [HX.out.1, firstT_at hx]
      have HB := Lib.hid HX.out.2
      simp only [Tw.row] at hld
      unfold Tw.v at hst
      clear hx hTr ea hg hr HX HF
      cases hs : stays lv x with
      | true =>
        rw [hs] at hst
        have HE : Hid (F = some j) := Lib.hid (by rw [hF2, hs]; rfl)
        clear hF2 hs
        go_wp2_with (first | ((with_reducible refine load_run ?_ (.tmp 14) 57 ?_ ?_ hld ?_); exact rfl; exact rfl; exact rfl) | fail)
        refine hst.mono ?_
        rintro e w2 ⟨rfl, hb⟩
        have HB2 : Hid (Below w.heap.size w w2) := Lib.hid (HB.out.trans (hb.mono HB.out.size))
        clear hst hb hld
        go_wp2_with fail
        go_ret
        exact ⟨by rw [HE.out]; rfl, HB2.out⟩
      | false =>
        rw [hs] at hst
        have HE : Hid (F = firstT l lv (j + 1)) := Lib.hid (by rw [hF2, hs]; rfl)
        clear hF2 hs
        go_wp2_with (first | ((with_reducible refine load_run ?_ (.tmp 14) 57 ?_ ?_ hld ?_); exact rfl; exact rfl; exact rfl) | fail)
        refine hst.mono ?_
        rintro e w2 ⟨rfl, hb⟩
        have HB2 : Hid (F = firstT l lv (j + 1) ∧ Below w.heap.size w w2) := Lib.hid ⟨HE.out, HB.out.trans (hb.mono HB.out.size)⟩
        clear hst hb hld
        go_wp2_with fail
        first
          | exact ⟨⟨j + 1, by simp, by omega, HB2⟩, by simp only [intOf]; omega⟩
          | (go_roundw
             case rel => exact ⟨j + 1, by simp, by omega, HB2⟩
             case measure => simp [intOf]; omega)
    · have hlt2 : ¬ (j : Int) < (n : Int) := by omega
      have HE : Hid (F = none ∧ Below w.heap.size w wr) := Lib.hid ⟨by rw [HX.out.1]; exact firstT_end (by rw [← HN.out.1]; omega), HX.out.2⟩
      clear HX HF
      go_wp2_with fail
      go_ret
      exact ⟨by rw [HE.out.1]; rfl, HE.out.2⟩
end Go.Proofs.Ytjlifkhpohfiaaa
