/- What plan.Links answers. Conditions: 1 to 100000 towers. -/
import Derived.Test.YtjlifkhpohfiaaaTe
namespace Go.Proofs.Ytjlifkhpohfiaaa
open Go.RowKit Go.Op
set_option maxRecDepth 100000

/-- The words of the links of a new tower. -/
def wordsT (l : List (Tw × Ts)) (i ver : Int) (k : Nat) : List Int := (List.range k).map fun (n : Nat) => tword (leadsT l i (n : Int)) ver
theorem wordsT_length (l : List (Tw × Ts)) (i ver : Int) (k : Nat) : (wordsT l i ver k).length = k := by simp [wordsT]
theorem made_nums (w : World) (n : Nat) (hn : n ≤ 1000000) : ∃ W, (Instr.makeSlice 35 (.int .i64 (n : Int)) (.int .i64 (n : Int))).run Try.prog w = .ok (.slice (some ⟨w.heap.size, 0, none⟩) n n) W ∧ Hid (W.ownsRow w.heap.size 3 1 (.slice (some ⟨w.heap.size, 0, none⟩) n n) n (ints (List.replicate n 0))) ∧ Hid (Below w.heap.size w W) := by
  obtain ⟨i0, hi, hz0, hz1, hz2⟩ := info_parts info3w
  obtain ⟨W, h1, h2, h3⟩ := run_make_full (P := Try.prog) w w.heap.size 35 3 i0 _ 1 Try.underlying35 hi hz0 hz1 .i64 .i64 n (by rw [hz2]; omega) (by unfold maxLen; omega) (Nat.le_refl _)
  have e : (madeCells (Value.int .i64 0).cells (n * 1)).toList = ints (List.replicate n 0) := by
    rw [Nat.mul_one, show (Value.int .i64 0).cells = #[Value.int .i64 0] from rfl, toList_madeCells_one]
    simp [ints]
  rw [e] at h2
  exact ⟨W, h1, Lib.hid h2, Lib.hid ((Below.refl _ _).grown h3 (Nat.le_refl _) (fun k hk => by cases hk))⟩
/-- What Links answers. -/
def LinksQ (l : List (Tw × Ts)) (i ht ver : Int) (B : Nat) (e : Ending) (w' : World) : Prop := ((ht < 1 ∨ 24 < ht) ∧ e = .returned (.slice none 0 0)) ∨
  (∃ N : Nat, ht = (N : Int) ∧ 1 ≤ N ∧ N ≤ 24 ∧ ∃ g, e = .returned (.slice (some ⟨g, 0, none⟩) N N) ∧ w'.ownsRow B 3 1 (.slice (some ⟨g, 0, none⟩) N N) N (ints (wordsT l i ver N)))
set_option maxHeartbeats 2000000 in
theorem links_any (w : World) (a : Option Addr) (cap : Nat) (l : List (Tw × Ts)) (hT : TRow w a l) (hcap : l.length ≤ cap) (h0 : 0 < l.length) (i ht ver : Int) :
    Calls Try.prog 15 #[.slice a l.length cap, .int .i64 i, .int .i64 ht, .int .i64 ver] w fun e w' => Below w.heap.size w w' ∧ LinksQ l i ht ver w.heap.size e w' := by
  have few := hT.few
  obtain ⟨n, hn⟩ : ∃ n, n = l.length := ⟨_, rfl⟩
  have HT := Lib.hid hT
  have HN := Lib.hid (⟨hn, hcap, h0⟩ : _ ∧ _ ∧ _)
  rw [← hn] at few h0 ⊢
  clear hT hcap hn
  by_cases h1 : ht < 1
  · have HE : Hid (ht < 1 ∨ 24 < ht) := Lib.hid (.inl h1)
    go_enter Try.func15, Try.ntmps15
    go_wp2_with fail
    go_ret
    exact ⟨Below.refl _ _, .inl ⟨HE.out, rfl⟩⟩
  by_cases h2 : 24 < ht
  · have HE : Hid (ht < 1 ∨ 24 < ht) := Lib.hid (.inr h2)
    go_enter Try.func15, Try.ntmps15
    go_wp2_with fail
    go_ret
    exact ⟨Below.refl _ _, .inl ⟨HE.out, rfl⟩⟩
  obtain ⟨N, rfl⟩ : ∃ N : Nat, ht = (N : Int) := ⟨ht.toNat, by omega⟩
  obtain ⟨W, hmk, ho, hb⟩ := made_nums w N (by omega)
  obtain ⟨gt, hgt⟩ : ∃ g, g = w.heap.size := ⟨_, rfl⟩
  rw [← hgt] at hmk ho
  have HG := Lib.hid hgt
  have hN24 : (N : Int) ≤ 24 := by omega
  clear hgt
  go_enter Try.func15, Try.ntmps15
  go_wp2_with fail
  go_loopw [21] (fun iv wr => ∃ (j : Nat) (xs : List Int), iv = .int .i64 (j : Int) ∧ j ≤ N ∧ Hid (Below w.heap.size w wr ∧ wr.ownsRow gt 3 1 (.slice (some ⟨gt, 0, none⟩) N N) N (ints xs) ∧ xs.length = N ∧ ∀ k, k < j → xs[k]? = (wordsT l i ver N)[k]?)) (fun iv _ => N - (intOf iv).toNat)
  case atStart => exact ⟨0, _, rfl, Nat.zero_le _, Lib.hid ⟨hb.out, ho.out, by simp, fun k hk => absurd hk (Nat.not_lt_zero _)⟩⟩
  case round =>
    obtain ⟨j, xs, rfl, hj, HX⟩ := hrel
    by_cases hlt : j < N
    · have hlt2 : (j : Int) < (N : Int) := by omega
      have hle := leadsT_any wr a cap l (HT.out.later HX.out.1) HN.out.2.1 HN.out.2.2 i (j : Int)
      rw [← HN.out.1] at hle
      obtain ⟨v, hv⟩ : ∃ v, v = leadsT l i (j : Int) := ⟨_, rfl⟩
      rw [← hv] at hle
      have htw := fun w => tword_any v ver w
      obtain ⟨u, hu⟩ : ∃ u, u = tword v ver := ⟨_, rfl⟩
      rw [← hu] at htw
      have HU : Hid ((wordsT l i ver N)[j]? = some u) := Lib.hid (by
        rw [hu, hv]; simp [wordsT, hlt])
      clear hv hu
      go_wp2_with fail
      refine hle.mono ?_
      rintro e w2 ⟨rfl, hb2⟩
      clear hle
      go_wp2_with fail
      refine (htw _).mono ?_
      rintro e w3 ⟨rfl, rfl⟩
      clear htw
      have own2 := own_later HX.out.2.1 hb2
      have hst := own2.stored j (.int .i64 u)
      have hjx : j < xs.length := by rw [HX.out.2.2.1]; exact hlt
      have ct : w2.cell? ⟨gt, j, none⟩ = some (.int .i64 xs[j]) := by
        rw [own2.cellAt j (by omega)]
        exact ints_get (List.getElem?_eq_getElem hjx)
      have ft := own2.frozenAt j
      have hat2 : ∀ W, (Instr.indexAt 35 (.slice (some ⟨gt, 0, none⟩) N N) (.int .i64 (j : Int))).run Try.prog W = .ok (.pointer (some ⟨gt, j, none⟩)) W := fun W => by
        have := at_35 gt 0 N N j hlt W
        rwa [Nat.zero_add] at this
      have HX2 : Hid (∃ ys : List Int, Below w.heap.size w (w2.setCell ⟨gt, j, none⟩ (.int .i64 u)) ∧ (w2.setCell ⟨gt, j, none⟩ (.int .i64 u)).ownsRow gt 3 1 (.slice (some ⟨gt, 0, none⟩) N N) N (ints ys) ∧ ys.length = N ∧ ∀ k, k < j + 1 → ys[k]? = (wordsT l i ver N)[k]?) := by
        have hb3 : But gt w2 (w2.setCell ⟨gt, j, none⟩ (.int .i64 u)) := (But.refl gt w2).set _ _
        have hbw := HX.out.1.trans (hb2.mono HX.out.1.size)
        refine Lib.hid ⟨xs.set j u, hbw.trans (hb3.below (by rw [HG.out]; exact Nat.le_refl _) hbw.size), ?_, by rw [List.length_set]; exact HX.out.2.2.1, fun k hk => ?_⟩
        · have e : ints (xs.set j u) = (ints xs).set j (.int .i64 u) := by simp [ints, List.map_set]
          rw [e]; exact hst.1
        · by_cases e : k = j
          · subst e
            rw [List.getElem?_set_self hjx, HU.out]
          · rw [List.getElem?_set_ne (fun e2 => e e2.symm)]
            exact HX.out.2.2.2 k (by omega)
      clear own2 hst hb2 HX HU
      go_wp2_with fail
      obtain ⟨ys, hX3⟩ := HX2.out
      first
        | exact ⟨⟨j + 1, ys, by simp, by omega, Lib.hid hX3⟩, by simp only [intOf]; omega⟩
        | (go_roundw
           case rel => exact ⟨j + 1, ys, by simp, by omega, Lib.hid hX3⟩
           case measure => simp [intOf]; omega)
    · have hlt2 : ¬ (j : Int) < (N : Int) := by omega
      obtain rfl : j = N := by omega
      have HE : Hid (Below w.heap.size w wr ∧ wr.ownsRow w.heap.size 3 1 (.slice (some ⟨gt, 0, none⟩) j j) j (ints (wordsT l i ver j)) ∧ 1 ≤ j ∧ j ≤ 24) := by
        obtain ⟨q1, q2, q3, q4⟩ := HX.out
        have e : xs = wordsT l i ver j := by
          apply List.ext_getElem?
          intro k
          by_cases hk : k < j
          · exact q4 k hk
          · rw [List.getElem?_eq_none (by omega), List.getElem?_eq_none (by rw [wordsT_length]; omega)]
        rw [e, HG.out] at q2
        exact Lib.hid ⟨q1, by rw [HG.out]; exact q2, by omega, by omega⟩
      clear HX
      go_wp2_with fail
      go_ret
      exact ⟨HE.out.1, .inr ⟨j, rfl, HE.out.2.2.1, HE.out.2.2.2, gt, rfl, HE.out.2.1⟩⟩
end Go.Proofs.Ytjlifkhpohfiaaa
