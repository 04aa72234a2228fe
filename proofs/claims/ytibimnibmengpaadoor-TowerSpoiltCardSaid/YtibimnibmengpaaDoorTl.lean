/- What rev.New answers of no entries; what the law's long, the reference's Find and To, and memory's Count answer. Conditions: at most so many elements as a slice may have; a row of at most 1000000 numbers. -/
import Derived.Test.YtibimnibmengpaaDoorTk
import Derived.Lib.MinMaxS
namespace Go.Proofs.YtibimnibmengpaaDoor
open Go.RowKit Go.Op
set_option maxRecDepth 100000

/-- A new revision of a span, without entries, with its slices. -/
structure NewR (w : World) (ver : Int) (sp : Kp) (p : Pl) (g3 : Nat) (w' : World) : Prop where
  inn : ∀ G, (g3, ints [0, 0]) ∈ G → (newR ver sp).In G p
  ge : w.heap.size ≤ g3
  row : Rw w' g3 (ints [0, 0])
  bel : Below w.heap.size w w'
set_option maxHeartbeats 1000000 in
theorem rnew_any (ver : Int) (sp : Kp) (w : World) : Calls Tryd.prog 41 #[.int .i64 ver, .int .i64 0, sp.v, .slice none 0 0] w fun e w' => ∃ p g3, e = .returned (.tuple #[(newR ver sp).v p, .int .i64 0]) ∧ NewR w ver sp p g3 w' := by
  obtain ⟨wb, hwb⟩ : ∃ W, W = w.alloc (.cells #[.string sp.lo, .string sp.hi, .bool sp.all] 49) := ⟨_, rfl⟩
  obtain ⟨w2, hw2⟩ : ∃ W, W = wb.alloc (.cells (rv0.row .nil).toArray 52) := ⟨_, rfl⟩
  have b1 : Below w.heap.size w wb := by rw [hwb]; exact (Below.refl _ _).alloc (Nat.le_refl _) _
  have b2 : Below wb.heap.size wb w2 := by rw [hw2]; exact (Below.refl _ _).alloc (Nat.le_refl _) _
  have hs1 : wb.heap.size = w.heap.size + 1 := by rw [hwb]; simp
  have hs2 : w2.heap.size = wb.heap.size + 1 := by rw [hw2]; simp
  have ssp : SVar wb w.heap.size [.string sp.lo, .string sp.hi, .bool sp.all] := by rw [hwb]; exact snew _ _ _
  have srs : SVar w2 wb.heap.size (rv0.row .nil) := by rw [hw2]; exact snew _ _ _
  have ssp2 := ssp.later b2
  have hld := ssp2.load sh49
  have hr := right0_any sp w2
  have HB := Lib.hid (⟨b1, b2, hs1, hs2⟩ : _ ∧ _ ∧ _ ∧ _)
  have HS := Lib.hid (⟨ssp2, srs⟩ : _ ∧ _)
  have HW := Lib.hid hwb.symm
  have HW2 := Lib.hid hw2.symm
  unfold Kp.v at hr ⊢
  simp only [Rv.row, rv0, Pl.nil, Sl.nil] at HW2
  clear hwb hw2 b1 b2 hs1 hs2 ssp srs ssp2
  go_enter Tryd.func41, Tryd.ntmps41
  go_wp2_with (first | rw [HW.out] | rw [HW2.out] | ((with_reducible refine load_run ?_ (.tmp 6) 49 ?_ ?_ hld ?_); exact rfl; exact rfl; exact rfl) | fail)
  refine hr.mono ?_
  rintro e w3 ⟨rfl, hb3⟩
  have hl := lay0_any ver 0 sp w3
  have hld2 := (HS.out.1.later hb3).load sh49
  have HB3 := Lib.hid hb3
  unfold Kp.v at hl
  clear hr hb3 hld
  go_wp2_with (first | ((with_reducible refine load_run ?_ (.tmp 6) 49 ?_ ?_ hld2 ?_); exact rfl; exact rfl; exact rfl) | fail)
  refine hl.mono ?_
  rintro e w4 ⟨g0, g1, g2, g3, rfl, hg3, hr3, hb4⟩
  have srs := (HS.out.2.later HB3.out).later hb4
  have hone : ∀ v ∈ layRow ver 0 sp g0 g1 g2 (.slice (some ⟨g3, 0, none⟩) 2 2), v.oneCell' = true := by
    intro v hv
    simp only [layRow, List.mem_cons, List.not_mem_nil, or_false] at hv
    rcases hv with rfl | rfl | rfl | rfl | rfl | rfl | rfl | rfl | rfl | rfl <;> rfl
  have hst := srs.store (row' := layRow ver 0 sp g0 g1 g2 (.slice (some ⟨g3, 0, none⟩) 2 2)) rfl sh40 hone
  have HF : Hid ((Go.loadVar 52 ⟨wb.heap.size, 0, none⟩).run Tryd.prog (sput w4 wb.heap.size (layRow ver 0 sp g0 g1 g2 (.slice (some ⟨g3, 0, none⟩) 2 2))) = .ok ((newR ver sp).v ⟨⟨some ⟨g0, 0, none⟩, 0, 0⟩, ⟨some ⟨g1, 0, none⟩, 0, 0⟩, ⟨some ⟨g2, 0, none⟩, 0, 0⟩, ⟨some ⟨g3, 0, none⟩, 2, 2⟩⟩) (sput w4 wb.heap.size (layRow ver 0 sp g0 g1 g2 (.slice (some ⟨g3, 0, none⟩) 2 2))) ∧ NewR w ver sp ⟨⟨some ⟨g0, 0, none⟩, 0, 0⟩, ⟨some ⟨g1, 0, none⟩, 0, 0⟩, ⟨some ⟨g2, 0, none⟩, 0, 0⟩, ⟨some ⟨g3, 0, none⟩, 2, 2⟩⟩ g3 (sput w4 wb.heap.size (layRow ver 0 sp g0 g1 g2 (.slice (some ⟨g3, 0, none⟩) 2 2)))) := by
    have b7 : But wb.heap.size w4 (sput w4 wb.heap.size (layRow ver 0 sp g0 g1 g2 (.slice (some ⟨g3, 0, none⟩) 2 2))) := But.sput _ _ _
    obtain ⟨a1, a2, a3, a4⟩ := HB.out
    have s3 := HB3.out.size
    have s4 := hb4.size
    have s1 := a1.size
    refine ⟨(srs.put (row' := layRow ver 0 sp g0 g1 g2 (.slice (some ⟨g3, 0, none⟩) 2 2)) rfl).loadVar sh40, fun G hG => ⟨⟨rfl, Nat.le_refl _, by simp [newR], .inl rfl⟩, ⟨rfl, Nat.le_refl _, by simp [newR], .inl rfl⟩, ⟨rfl, Nat.le_refl _, by simp [newR], .inl rfl⟩, ⟨rfl, Nat.le_refl _, by simp [newR, ints], .inr ⟨g3, 0, ints [0, 0], rfl, hG, fun i x hx => by rw [Nat.zero_add]; exact hx⟩⟩⟩, by omega, hr3.same b7.size (b7.block _ hr3.lt (by omega)), ?_⟩
    exact (((a1.trans (a2.mono (by omega))).trans (HB3.out.mono (by omega))).trans (hb4.mono (by omega))).trans (b7.belowAt (by omega) (by omega))
  generalize hsW : sput w4 wb.heap.size (layRow ver 0 sp g0 g1 g2 (.slice (some ⟨g3, 0, none⟩) 2 2)) = W at hst HF
  simp only [layRow, sl0] at hst
  clear hl hg3 hr3 hb4 srs hone hsW hld2
  simp only [layRow, sl0]
  go_wp2_with (first | ((with_reducible refine store_run ?_ (.tmp 8) (.tmp 19) 52 ?_ ?_ ?_ hst ?_); exact rfl; exact rfl; exact rfl; exact rfl) | fail)
  exact bodyPost_ret (res_ct (.int .i64 0) Tryd.results41 rfl rfl HF.out.1) rfl ⟨_, g3, rfl, HF.out.2⟩
/-- A row of numbers, of texts, for reading. -/
def NRow (w : World) (a : Option Addr) (l : List Int) : Prop := l = [] ∨ ∃ g o, a = some ⟨g, o, none⟩ ∧ g < w.heap.size ∧ w.rangeAt g o (ints l)
def strs (l : List ByteArray) : List Value := l.map .string
def SRow (w : World) (a : Option Addr) (l : List ByteArray) : Prop := l = [] ∨ ∃ g o, a = some ⟨g, o, none⟩ ∧ g < w.heap.size ∧ w.rangeAt g o (strs l)
theorem strs_get {l : List ByteArray} {i : Nat} {x : ByteArray} (h : l[i]? = some x) : (strs l)[i]? = some (.string x) := by simp [strs, h]
theorem NRow.later {w w1 : World} {a : Option Addr} {l : List Int} (h : NRow w a l) (hb : Below w.heap.size w w1) : NRow w1 a l :=
  h.imp id fun ⟨g, o, e, hg, hr⟩ => ⟨g, o, e, Nat.lt_of_lt_of_le hg hb.size, rangeAt_same hr (hb.block g hg)⟩
theorem SRow.later {w w1 : World} {a : Option Addr} {l : List ByteArray} (h : SRow w a l) (hb : Below w.heap.size w w1) : SRow w1 a l :=
  h.imp id fun ⟨g, o, e, hg, hr⟩ => ⟨g, o, e, Nat.lt_of_lt_of_le hg hb.size, rangeAt_same hr (hb.block g hg)⟩
theorem NRow.at_ {w : World} {a : Option Addr} {l : List Int} (h : NRow w a l) {i : Nat} {x : Int} (hx : l[i]? = some x) : ∃ g o, a = some ⟨g, o, none⟩ ∧ w.cell? ⟨g, o + i, none⟩ = some (.int .i64 x) := by
  rcases h with e | ⟨g, o, e, hg, hr⟩
  · rw [e] at hx; simp at hx
  · exact ⟨g, o, e, hr i _ (ints_get hx)⟩
theorem SRow.at_ {w : World} {a : Option Addr} {l : List ByteArray} (h : SRow w a l) {i : Nat} {x : ByteArray} (hx : l[i]? = some x) : ∃ g o, a = some ⟨g, o, none⟩ ∧ w.cell? ⟨g, o + i, none⟩ = some (.string x) := by
  rcases h with e | ⟨g, o, e, hg, hr⟩
  · rw [e] at hx; simp at hx
  · exact ⟨g, o, e, hr i _ (strs_get hx)⟩
/-- The reference's To: the place of the first number behind a place that is greater than a level. -/
def RefTo (l : List Int) (i : Nat) (lv r : Int) : Prop := (r = -1 ∧ ∀ (j : Nat) (x : Int), i < j → l[j]? = some x → ¬ lv < x) ∨ ∃ (j : Nat) (x : Int), r = (j : Int) ∧ i < j ∧ l[j]? = some x ∧ lv < x ∧ ∀ (k : Nat) (y : Int), i < k → k < j → l[k]? = some y → ¬ lv < y
set_option maxHeartbeats 1000000 in
theorem refTo_any (w : World) (a : Option Addr) (cap : Nat) (l : List Int) (hl : l.length ≤ 1000000) (h : NRow w a l) (i : Nat) (hi : i ≤ 1000000) (lv : Int) :
    Calls Tryd.prog 25 #[.slice a l.length cap, .int .i64 (i : Int), .int .i64 lv] w fun e w' => (∃ r, e = .returned (.int .i64 r) ∧ RefTo l i lv r) ∧ w = w' := by
  obtain ⟨n, hn⟩ : ∃ n, n = l.length := ⟨_, rfl⟩
  have HN := Lib.hid hn
  have HR := Lib.hid h
  have hn2 : (n : Int) ≤ 1000000 := by omega
  rw [← hn]
  clear hn h hl
  go_enter Tryd.func25, Tryd.ntmps25
  go_wp2_with fail
  go_loopw [7] (fun iv wr => ∃ j : Nat, iv = .int .i64 (j : Int) ∧ i < j ∧ j ≤ 1000001 ∧ w = wr ∧ Hid (∀ (k : Nat) (y : Int), i < k → k < j → l[k]? = some y → ¬ lv < y)) (fun iv _ => 1000002 - (intOf iv).toNat)
  case atStart => exact ⟨i + 1, by simp, by omega, by omega, rfl, fun k y h1 h2 => by omega⟩
  case round =>
    obtain ⟨j, rfl, hij, hj, rfl, hX⟩ := hrel
    by_cases hlt : j < n
    · have hlt2 : (j : Int) < (n : Int) := by omega
      obtain ⟨x, hx⟩ : ∃ x, l[j]? = some x := ⟨_, List.getElem?_eq_getElem (by rw [← HN.out]; exact hlt)⟩
      obtain ⟨g, o, ea, hc⟩ := HR.out.at_ hx
      subst ea
      by_cases hv : lv < x
      · have HE : Hid (RefTo l i lv (j : Int)) := .inr ⟨j, x, rfl, hij, hx, hv, hX.out⟩
        clear hX HR hx
        go_wp2_with fail
        go_ret
        exact ⟨⟨_, rfl, HE.out⟩, rfl⟩
      · have HX2 : Hid (∀ (k : Nat) (y : Int), i < k → k < j + 1 → l[k]? = some y → ¬ lv < y) := fun k y h1 h2 hy => by
          by_cases e : k = j
          · subst e
            rw [hx] at hy
            cases hy
            exact hv
          · exact hX.out k y h1 (by omega) hy
        clear hX HR hx
        go_wp2_with fail
        exact ⟨⟨j + 1, by simp, by omega, by omega, by trivial, HX2⟩, by simp only [intOf]; omega⟩
    · have hlt2 : ¬ (j : Int) < (n : Int) := by omega
      have HE : Hid (RefTo l i lv (-1)) := .inl ⟨rfl, fun k y h1 hy => hX.out k y h1 (by
        have := (List.getElem?_eq_some_iff.1 hy).1
        have := HN.out
        omega) hy⟩
      clear hX HR
      go_wp2_with fail
      go_ret
      exact ⟨⟨_, rfl, HE.out⟩, rfl⟩
/-- The reference's Find: the last text that isn't greater. -/
def FindP (l : List ByteArray) (t : ByteArray) (r : Nat) : Prop := (r = 0 ∨ ∃ x, l[r]? = some x ∧ lt t x = false) ∧ ∀ (j : Nat) (x : ByteArray), l[j]? = some x → lt t x = false → j ≤ r
set_option maxHeartbeats 1000000 in
theorem refFind_any (w : World) (a : Option Addr) (cap : Nat) (l : List ByteArray) (hl : l.length ≤ 1000000) (h : SRow w a l) (t : ByteArray) :
    Calls Tryd.prog 14 #[.slice a l.length cap, .string t] w fun e w' => (∃ r : Nat, e = .returned (.int .i64 (r : Int)) ∧ FindP l t r) ∧ w = w' := by
  obtain ⟨n, hn⟩ : ∃ n, n = l.length := ⟨_, rfl⟩
  have HN := Lib.hid hn
  have HR := Lib.hid h
  have hn2 : (n : Int) ≤ 1000000 := by omega
  rw [← hn]
  clear hn h hl
  go_enter Tryd.func14, Tryd.ntmps14
  go_wp2_with fail
  go_loopw [5, 6] (fun rv iv wr => ∃ j r : Nat, iv = .int .i64 (j : Int) ∧ rv = .int .i64 (r : Int) ∧ j ≤ n ∧ w = wr ∧ Hid ((r = 0 ∨ ∃ x, l[r]? = some x ∧ lt t x = false) ∧ ∀ (k : Nat) (x : ByteArray), k < j → l[k]? = some x → lt t x = false → k ≤ r)) (fun _ iv _ => n - (intOf iv).toNat)
  case atStart => exact ⟨0, 0, rfl, rfl, Nat.zero_le _, rfl, .inl rfl, fun k x hk => absurd hk (Nat.not_lt_zero _)⟩
  case round =>
    obtain ⟨j, r, rfl, rfl, hj, rfl, hX⟩ := hrel
    by_cases hlt : j < n
    · have hlt2 : (j : Int) < (n : Int) := by omega
      obtain ⟨x, hx⟩ : ∃ x, l[j]? = some x := ⟨_, List.getElem?_eq_getElem (by rw [← HN.out]; exact hlt)⟩
      obtain ⟨g, o, ea, hc⟩ := HR.out.at_ hx
      subst ea
      cases hv : lt t x with
      | false =>
        have HX2 : Hid ((j = 0 ∨ ∃ x, l[j]? = some x ∧ lt t x = false) ∧ ∀ (k : Nat) (x : ByteArray), k < j + 1 → l[k]? = some x → lt t x = false → k ≤ j) := ⟨.inr ⟨x, hx, hv⟩, fun k y hk _ _ => by omega⟩
        rcases tri x t with ⟨h1, h2, h3⟩ | ⟨h1, h2, h3⟩ | ⟨h1, h2, h3⟩
        · clear hX HR hx hv
          go_wp2_with fail
          exact ⟨⟨j + 1, j, by simp, rfl, by omega, by trivial, HX2⟩, by simp only [intOf]; omega⟩
        · clear hX HR hx hv
          go_wp2_with fail
          exact ⟨⟨j + 1, j, by simp, rfl, by omega, by trivial, HX2⟩, by simp only [intOf]; omega⟩
        · have hv' : bytesLess t.toList x.toList = false := hv
          rw [hv'] at h2
          cases h2
      | true =>
        have HX2 : Hid ((r = 0 ∨ ∃ x, l[r]? = some x ∧ lt t x = false) ∧ ∀ (k : Nat) (x : ByteArray), k < j + 1 → l[k]? = some x → lt t x = false → k ≤ r) := ⟨hX.out.1, fun k y hk hy hyl => by
          by_cases e : k = j
          · subst e
            rw [hx] at hy
            cases hy
            rw [hv] at hyl
            cases hyl
          · exact hX.out.2 k y (by omega) hy hyl⟩
        have hv' : bytesLess t.toList x.toList = true := hv
        have h1 : bytesLess x.toList t.toList = false := less_asym _ _ hv'
        have h3 : (x.toList == t.toList) = false := by
          rcases tri x t with h | h | h
          · rw [h.1] at h1; cases h1
          · rw [h.2.1] at hv'; cases hv'
          · exact h.2.2
        clear hX HR hx hv
        go_wp2_with fail
        exact ⟨⟨j + 1, r, by simp, rfl, by omega, by trivial, HX2⟩, by simp only [intOf]; omega⟩
    · have hlt2 : ¬ (j : Int) < (n : Int) := by omega
      have HE : Hid (FindP l t r) := ⟨hX.out.1, fun k y hy hyl => hX.out.2 k y (by
        have := (List.getElem?_eq_some_iff.1 hy).1
        have := HN.out
        omega) hy hyl⟩
      clear hX HR
      go_wp2_with fail
      go_ret
      exact ⟨⟨r, rfl, HE.out⟩, rfl⟩
/-- Whether there are too many keys. -/
def IsLong (e : Ending) (n : Nat) : Prop := ∃ r : Bool, e = .returned (.bool r) ∧ (r = false → n ≤ 40)
set_option maxHeartbeats 1000000 in
theorem long_any (w : World) (a : Option Addr) (cap : Nat) (l : List ByteArray) (hl : l.length ≤ 9223372036854775807) (h : SRow w a l) :
    Calls Tryd.prog 11 #[.slice a l.length cap] w fun e w' => IsLong e l.length ∧ w = w' := by
  obtain ⟨n, hn⟩ : ∃ n, n = l.length := ⟨_, rfl⟩
  have HN := Lib.hid hn
  have HR := Lib.hid h
  have hn2 : (n : Int) ≤ 9223372036854775807 := by omega
  rw [← hn]
  clear hn h hl
  go_enter Tryd.func11, Tryd.ntmps11
  go_wp2_with fail
  go_loopw [3, 4] (fun sv iv wr => ∃ j r : Nat, iv = .int .i64 (j : Int) ∧ sv = .int .i64 (r : Int) ∧ j ≤ n ∧ r ≤ 40001 ∧ w = wr) (fun _ iv _ => n - (intOf iv).toNat)
  case atStart => exact ⟨0, 0, rfl, rfl, Nat.zero_le _, Nat.zero_le _, rfl⟩
  case round =>
    obtain ⟨j, r, rfl, rfl, hj, hr, rfl⟩ := hrel
    have fin : ∀ r : Bool, (r = false → n ≤ 40) → Hid (r = false → n ≤ 40) := fun r h => h
    by_cases hlt : j < n ∧ r ≤ 20000
    · obtain ⟨hlt, hr2⟩ := hlt
      have hlt2 : (j : Int) < (n : Int) := by omega
      have hr3 : (r : Int) ≤ 20000 := by omega
      obtain ⟨x, hx⟩ : ∃ x, l[j]? = some x := ⟨_, List.getElem?_eq_getElem (by rw [← HN.out]; exact hlt)⟩
      obtain ⟨g, o, ea, hc⟩ := HR.out.at_ hx
      subst ea
      clear HR hx fin
      go_wp2_with fail
      exact ⟨⟨j + 1, r + min x.size 20001, by simp, by rw [show ((r + min x.size 20001 : Nat) : Int) = (r : Int) + min (x.size : Int) 20001 by omega], by omega, by omega, by trivial⟩, by simp only [intOf]; omega⟩
    · have HE : Hid ((decide (40 < n) || decide (20000 < r)) = false → n ≤ 40) := fun e => by
        simp only [Bool.or_eq_false_iff, decide_eq_false_iff_not] at e
        omega
      by_cases h40 : 40 < n
      · have h41 : (40 : Int) < (n : Int) := by omega
        by_cases hlt1 : j < n
        · have hlt2 : (j : Int) < (n : Int) := by omega
          have hr3 : ¬ (r : Int) ≤ 20000 := by omega
          have h42 : ¬ n ≤ 40 := by omega
          clear HR fin hlt HE
          go_wp2_with fail
          go_ret
          exact ⟨⟨true, rfl, fun e => (by cases e)⟩, rfl⟩
        · have hlt2 : ¬ (j : Int) < (n : Int) := by omega
          clear HR fin hlt HE
          go_wp2_with fail
          go_ret
          exact ⟨⟨true, rfl, fun e => (by cases e)⟩, rfl⟩
      · have h41 : ¬ (40 : Int) < (n : Int) := by omega
        have h42 : Hid (n ≤ 40) := by show _ ≤ _; omega
        by_cases hlt1 : j < n
        · have hlt2 : (j : Int) < (n : Int) := by omega
          have hr3 : ¬ (r : Int) ≤ 20000 := by omega
          have hr4 : (20000 : Int) < (r : Int) := by omega
          clear HR fin hlt HE
          go_wp2_with fail
          go_ret
          exact ⟨⟨true, rfl, fun e => (by cases e)⟩, rfl⟩
        · have hlt2 : ¬ (j : Int) < (n : Int) := by omega
          clear HR fin hlt HE
          by_cases hr5 : 20000 < r
          · have hr6 : (20000 : Int) < (r : Int) := by omega
            go_wp2_with fail
            go_ret
            exact ⟨⟨true, rfl, fun e => (by cases e)⟩, rfl⟩
          · have hr6 : ¬ (20000 : Int) < (r : Int) := by omega
            go_wp2_with fail
            go_ret
            exact ⟨⟨false, rfl, fun _ => h42.out⟩, rfl⟩
theorem count_any {w0 : World} {b c r : Nat} {G : List (Nat × List Value)} {w : World} {m : M} (h : HasE w0 b c r G w m) : Calls Tryd.prog 13 #[.pointer (some ⟨b, 0, none⟩)] w fun e w' => e = .returned (.int .i64 m.count) ∧ w = w' := by
  obtain ⟨m0, h1, -, -, e⟩ := h
  have hc : w.cell? ⟨b, 2, none⟩ = some (.int .i64 m0.count) := h1.at_.head.h2
  have he : m.count = m0.count := by rw [← e.1]; rfl
  rw [he]
  clear h1 e he
  go_enter Tryd.func13, Tryd.ntmps13
  go_wp2
  go_ret
  exact ⟨rfl, rfl⟩
end Go.Proofs.YtibimnibmengpaaDoor
