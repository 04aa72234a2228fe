/- What plan.Leads answers of any row of towers. Conditions: 1 to 100000 towers. -/
import Derived.Test.YtjlifkhpohfiaaaTd
namespace Go.Proofs.Ytjlifkhpohfiaaa
open Go.RowKit Go.Op
set_option maxRecDepth 100000

def handT (l : List (Tw × Ts)) : Option Nat → Int
  | some j => match l[j]? with
    | some x => x.1.h
    | none => 0
  | none => 0
/-- Whom a tower behind a place has to lead to. -/
def behindI (i : Int) : Nat := (max i (-1) + 1).toNat
def leadsT (l : List (Tw × Ts)) (i lv : Int) : Int := if (l.length : Int) ≤ i ∨ lv < 0 then 0 else handT l (firstT l lv (behindI i))
theorem slice28 (g o n cap d : Nat) (hd : d ≤ n) (hc : n ≤ cap) (w : World) : ∃ o', (Instr.sliceAt 28 (.slice (some ⟨g, o, none⟩) n cap) (some (.int .i64 (d : Int))) none none).run Try.prog w = .ok (.slice (some ⟨g, o', none⟩) (n - d) (cap - d)) w ∧ (d < n → o' = o + d * 4) := by
  by_cases h : cap = d
  · have h2 : (d : Int) ≤ (n : Int) := by omega
    have hn : n = d := by omega
    subst h hn
    exact ⟨o, by go_simp, fun h => absurd h (Nat.lt_irrefl _)⟩
  · have h2 : (d : Int) ≤ (n : Int) := by omega
    exact ⟨o + d * 4, by go_simp, fun _ => rfl⟩
set_option maxHeartbeats 2000000 in
theorem leadsT_any (w : World) (a : Option Addr) (cap : Nat) (l : List (Tw × Ts)) (hT : TRow w a l) (hcap : l.length ≤ cap) (h0 : 0 < l.length) (i lv : Int) :
    Calls Try.prog 14 #[.slice a l.length cap, .int .i64 i, .int .i64 lv] w fun e w' => e = .returned (.int .i64 (leadsT l i lv)) ∧ Below w.heap.size w w' := by
  have few := hT.few
  obtain ⟨wl, hwl⟩ : ∃ W, W = w.alloc (.cells #[.int .i64 lv] 3) := ⟨_, rfl⟩
  have hbl : Below w.heap.size w wl := by rw [hwl]; exact al_below _ _
  have hTl := hT.later hbl
  obtain ⟨n, hn⟩ : ∃ n, n = l.length := ⟨_, rfl⟩
  obtain ⟨g, o, rfl⟩ : ∃ g o, a = some ⟨g, o, none⟩ := by
    rcases hT.row with e | ⟨g, o, e, -⟩
    · have := flat_length trow 4 trow_len l
      rw [show l.flatMap trow = [] from e] at this
      simp at this
      omega
    · exact ⟨g, o, e⟩
  have hcap2 : n ≤ cap := by omega
  have hnf : (n : Int) ≤ 200000 := by omega
  unfold leadsT
  rw [← hn] at h0 ⊢
  by_cases h1 : (n : Int) ≤ i
  · rw [if_pos (.inl h1)]
    have HB := Lib.hid hbl
    have HWl := Lib.hid hwl.symm
    clear hT hTl hwl hbl hn few hcap
    go_enter Try.func14, Try.ntmps14
    go_wp2_with (first | rw [HWl.out] | fail)
    go_ret
    exact ⟨rfl, HB.out⟩
  by_cases h2 : lv < 0
  · rw [if_pos (.inr h2)]
    have HB := Lib.hid hbl
    have HWl := Lib.hid hwl.symm
    have c0 : wl.cell? ⟨w.heap.size, 0, none⟩ = some (.int .i64 lv) := by rw [hwl]; exact (snew w [.int .i64 lv] 3).cell (i := 0) rfl
    clear hT hTl hwl hbl hn few hcap
    go_enter Try.func14, Try.ntmps14
    go_wp2_with (first | rw [HWl.out] | fail)
    go_ret
    exact ⟨rfl, HB.out⟩
  rw [if_neg (by omega)]
  have c0 : wl.cell? ⟨w.heap.size, 0, none⟩ = some (.int .i64 lv) := by rw [hwl]; exact (snew w [.int .i64 lv] 3).cell (i := 0) rfl
  clear few hcap
  by_cases h3 : i < 0
  · obtain ⟨d, hdd⟩ : ∃ d : Nat, d = 0 := ⟨0, rfl⟩
    have hm1 : max i (-1) + 1 = (d : Int) := by omega
    have hd : behindI i = d := by unfold behindI; omega
    rw [hd]
    have hdn2 : d ≤ n := by omega
    clear hd hdd h3
    obtain ⟨o', hsl, ho'⟩ := slice28 g o n cap d hdn2 hcap2 wl
    have hTD : TRow wl (some ⟨g, o', none⟩) (l.drop d) := by
      refine ⟨?_, fun x hx => hTl.lk x (List.mem_of_mem_drop hx), by rw [List.length_drop]; have := hTl.few; omega⟩
      by_cases hdn : d < n
      · rcases hTl.row with e | ⟨g', o2, e, hg2, hr2⟩
        · have := flat_length trow 4 trow_len l
          rw [show l.flatMap trow = [] from e] at this
          simp at this
          omega
        · cases e
          refine .inr ⟨g, o', rfl, hg2, fun j u hj => ?_⟩
          rw [ho' hdn, Nat.add_assoc]
          refine hr2 _ u ?_
          have e2 : l = l.take d ++ l.drop d := (List.take_append_drop d l).symm
          have e3 : (l.take d).length = d := by rw [List.length_take]; omega
          rw [e2, trows, List.flatMap_append, List.getElem?_append_right (by rw [flat_length trow 4 trow_len, e3]; omega), flat_length trow 4 trow_len, e3, show d * 4 + j - d * 4 = j by omega]
          exact hj
      · refine .inl ?_
        rw [List.drop_of_length_le (by omega)]; rfl
    have hix := indexT_any wl (some ⟨g, o', none⟩) (cap - d) (l.drop d) hTD (by rw [List.length_drop, ← hn]; omega) lv w.heap.size (by rw [hwl]; exact (snew w [.int .i64 lv] 3).cell (i := 0) rfl) (by rw [hwl]; exact (snew w [.int .i64 lv] 3).lt)
    rw [List.length_drop, ← hn] at hix
    have hfd := firstT_drop l lv d (l.length - (d + 0)) 0 rfl
    rw [Nat.add_zero] at hfd
    obtain ⟨F, hF⟩ : ∃ F, F = firstT (l.drop d) lv 0 := ⟨_, rfl⟩
    rw [← hF] at hix hfd
    have hFs : ∀ j, F = some j → j < n - d := fun j e => by
      have := firstT_some (hF.symm.trans e)
      rw [List.length_drop, ← hn] at this
      exact this.2
    have HT := Lib.hid hTl
    have HB := Lib.hid hbl
    have HN := Lib.hid hn
    have HFd := Lib.hid hfd
    have HWl := Lib.hid hwl.symm
    have HO := Lib.hid ho'
    clear hT hTl hwl hbl hTD hfd hF hn ho'
    go_enter Try.func14, Try.ntmps14
    go_wp2_with (first | rw [HWl.out] | fail)
    refine hix.mono ?_
    rintro e w2 ⟨rfl, hb⟩
    have HB2 : Hid (Below w.heap.size w w2 ∧ Below wl.heap.size wl w2) := Lib.hid ⟨HB.out.trans (hb.mono HB.out.size), hb⟩
    clear hix hsl hb
    cases F with
    | none =>
      have HE : Hid (handT l (firstT l lv d) = 0) := Lib.hid (by rw [HFd.out]; rfl)
      have ef : ofO none = -1 := rfl
      rw [ef]
      clear ef hFs
      go_wp2_with fail
      go_ret
      exact ⟨ret_i64 HE.out.symm, HB2.out.1⟩
    | some j =>
      have hj := hFs j rfl
      obtain ⟨x, hx⟩ : ∃ x, l[d + j]? = some x := ⟨_, List.getElem?_eq_getElem (by rw [← HN.out]; omega)⟩
      have HE : Hid (handT l (firstT l lv d) = x.1.h) := Lib.hid (by rw [HFd.out]; show (match l[d + j]? with | some x => x.1.h | none => 0) = _; rw [hx])
      obtain ⟨g', o2, e2, hg2, hr2⟩ := (HT.out.later HB2.out.2).at_ hx
      cases e2
      have c0 := hr2 0 _ rfl
      rw [Nat.add_zero] at c0
      have hat : ∀ W, (Instr.indexAt 28 (.slice (some ⟨g, o', none⟩) (n - d) (cap - d)) (.int .i64 (j : Int))).run Try.prog W = .ok (.pointer (some ⟨g, o + (d + j) * 4, none⟩)) W := fun W => by
        have := at_28 g o' (n - d) (cap - d) j hj W
        rw [HO.out (by omega)] at this ⊢
        rwa [show o + (d + j) * 4 = o + d * 4 + j * 4 by omega]
      have ef : ofO (some j) = (j : Int) := rfl
      have hj0 : ¬ (j : Int) < 0 := by omega
      rw [ef]
      clear ef hFs hr2 hx HT HO HFd
      go_wp2_with fail
      go_ret
      exact ⟨ret_i64 HE.out.symm, HB2.out.1⟩
  · obtain ⟨d, hdd⟩ : ∃ d : Nat, d = i.toNat + 1 := ⟨_, rfl⟩
    have hm1 : max i (-1) + 1 = (d : Int) := by omega
    have hd : behindI i = d := by unfold behindI; omega
    rw [hd]
    have hdn2 : d ≤ n := by omega
    clear hd hdd h3
    obtain ⟨o', hsl, ho'⟩ := slice28 g o n cap d hdn2 hcap2 wl
    have hTD : TRow wl (some ⟨g, o', none⟩) (l.drop d) := by
      refine ⟨?_, fun x hx => hTl.lk x (List.mem_of_mem_drop hx), by rw [List.length_drop]; have := hTl.few; omega⟩
      by_cases hdn : d < n
      · rcases hTl.row with e | ⟨g', o2, e, hg2, hr2⟩
        · have := flat_length trow 4 trow_len l
          rw [show l.flatMap trow = [] from e] at this
          simp at this
          omega
        · cases e
          refine .inr ⟨g, o', rfl, hg2, fun j u hj => ?_⟩
          rw [ho' hdn, Nat.add_assoc]
          refine hr2 _ u ?_
          have e2 : l = l.take d ++ l.drop d := (List.take_append_drop d l).symm
          have e3 : (l.take d).length = d := by rw [List.length_take]; omega
          rw [e2, trows, List.flatMap_append, List.getElem?_append_right (by rw [flat_length trow 4 trow_len, e3]; omega), flat_length trow 4 trow_len, e3, show d * 4 + j - d * 4 = j by omega]
          exact hj
      · refine .inl ?_
        rw [List.drop_of_length_le (by omega)]; rfl
    have hix := indexT_any wl (some ⟨g, o', none⟩) (cap - d) (l.drop d) hTD (by rw [List.length_drop, ← hn]; omega) lv w.heap.size (by rw [hwl]; exact (snew w [.int .i64 lv] 3).cell (i := 0) rfl) (by rw [hwl]; exact (snew w [.int .i64 lv] 3).lt)
    rw [List.length_drop, ← hn] at hix
    have hfd := firstT_drop l lv d (l.length - (d + 0)) 0 rfl
    rw [Nat.add_zero] at hfd
    obtain ⟨F, hF⟩ : ∃ F, F = firstT (l.drop d) lv 0 := ⟨_, rfl⟩
    rw [← hF] at hix hfd
    have hFs : ∀ j, F = some j → j < n - d := fun j e => by
      have := firstT_some (hF.symm.trans e)
      rw [List.length_drop, ← hn] at this
      exact this.2
    have HT := Lib.hid hTl
    have HB := Lib.hid hbl
    have HN := Lib.hid hn
    have HFd := Lib.hid hfd
    have HWl := Lib.hid hwl.symm
    have HO := Lib.hid ho'
    clear hT hTl hwl hbl hTD hfd hF hn ho'
    go_enter Try.func14, Try.ntmps14
    go_wp2_with (first | rw [HWl.out] | fail)
    refine hix.mono ?_
    rintro e w2 ⟨rfl, hb⟩
    have HB2 : Hid (Below w.heap.size w w2 ∧ Below wl.heap.size wl w2) := Lib.hid ⟨HB.out.trans (hb.mono HB.out.size), hb⟩
    clear hix hsl hb
    cases F with
    | none =>
      have HE : Hid (handT l (firstT l lv d) = 0) := Lib.hid (by rw [HFd.out]; rfl)
      have ef : ofO none = -1 := rfl
      rw [ef]
      clear ef hFs
      go_wp2_with fail
      go_ret
      exact ⟨ret_i64 HE.out.symm, HB2.out.1⟩
    | some j =>
      have hj := hFs j rfl
      obtain ⟨x, hx⟩ : ∃ x, l[d + j]? = some x := ⟨_, List.getElem?_eq_getElem (by rw [← HN.out]; omega)⟩
      have HE : Hid (handT l (firstT l lv d) = x.1.h) := Lib.hid (by rw [HFd.out]; show (match l[d + j]? with | some x => x.1.h | none => 0) = _; rw [hx])
      obtain ⟨g', o2, e2, hg2, hr2⟩ := (HT.out.later HB2.out.2).at_ hx
      cases e2
      have c0 := hr2 0 _ rfl
      rw [Nat.add_zero] at c0
      have hat : ∀ W, (Instr.indexAt 28 (.slice (some ⟨g, o', none⟩) (n - d) (cap - d)) (.int .i64 (j : Int))).run Try.prog W = .ok (.pointer (some ⟨g, o + (d + j) * 4, none⟩)) W := fun W => by
        have := at_28 g o' (n - d) (cap - d) j hj W
        rw [HO.out (by omega)] at this ⊢
        rwa [show o + (d + j) * 4 = o + d * 4 + j * 4 by omega]
      have ef : ofO (some j) = (j : Int) := rfl
      have hj0 : ¬ (j : Int) < 0 := by omega
      rw [ef]
      clear ef hFs hr2 hx HT HO HFd
      go_wp2_with fail
      go_ret
      exact ⟨ret_i64 HE.out.symm, HB2.out.1⟩
end Go.Proofs.Ytjlifkhpohfiaaa
