/- The law's yard, and what its links answers. Condition: heights of at most 100. -/
import Derived.Test.YtibimnibmengpaaDoorTl
namespace Go.Proofs.YtibimnibmengpaaDoor
open Go.RowKit Go.Op
set_option maxRecDepth 100000

section
variable {w w1 w2 : World} {base size n : Nat} {e : TypeId} {v : Value} {xs : List Value}
theorem own_later (h : w.ownsRow base e size v n xs) (hb : Below w.heap.size w w1) : w1.ownsRow base e size v n xs := by
  refine ⟨h.1, ?_⟩
  have hl := World.ownsRow.lt h
  rcases h.2 with q | ⟨g, cap, cur, e1, e2, e3, e4⟩
  · exact .inl q
  · exact .inr ⟨g, cap, cur, e1, e2, by rw [hb.block g (hl g (by rw [e1]; rfl)).2]; exact e3, e4⟩
theorem own_but {z : Nat} (h : w.ownsRow base e size v n xs) (hb : But z w w1) (hz : z < base) : w1.ownsRow base e size v n xs := by
  refine ⟨h.1, ?_⟩
  have hl := World.ownsRow.lt h
  rcases h.2 with q | ⟨g, cap, cur, e1, e2, e3, e4⟩
  · exact .inl q
  · exact .inr ⟨g, cap, cur, e1, e2, by rw [hb.block g (hl g (by rw [e1]; rfl)).2 (by omega)]; exact e3, e4⟩
theorem own_val (h : w.ownsRow base e size v n xs) : (v = .slice none 0 0 ∧ n = 0) ∨ ∃ g cap, v = .slice (some ⟨g, 0, none⟩) n cap ∧ n ≤ cap ∧ base ≤ g ∧ g < w.heap.size ∧ w.rangeAt g 0 xs := by
  rcases id h.2 with q | ⟨g, cap, cur, e1, q1, q2, q3, -⟩
  · exact .inl q
  · refine .inr ⟨g, cap, e1, q3, q1, (World.ownsRow.lt h g (by rw [e1]; rfl)).2, fun j u hu => ?_⟩
    have := World.ownsRow.cells h (g := g) (by rw [e1]; rfl) j u hu
    rwa [add_off] at this
/-- More is appended to a row of the caller's own. -/
theorem own_app (T : TypeId) (bytes : Nat) (i0 : TypeInfo) (z : Value) (hT : Tryd.prog.underlying T = some (.slice e)) (hi : Tryd.prog.info? e = some i0) (hz0 : i0.zero = some z) (hz1 : i0.size = size) (hz2 : i0.bytes = bytes) (hzs : z.cells.size = size) (hsz : 0 < size)
    (h : w1.ownsRow base e size v n xs) (hb1 : base ≤ w1.heap.size) (ad : Addr) (k cap : Nat) (news : List Value) (hl : news.length = k * size) (hk : ∀ j u, news[j]? = some u → w1.cell? (ad.add j) = some u) (h1 : ∀ u ∈ news, u.oneCell' = true) (hn : n + k ≤ 1000000) (hby : bytes ≤ 1000) (ty : TypeId) :
    ∃ a' cap' w2, (Builtin.append_ #[T, T] ty #[v, .slice (some ad) k cap]).run Tryd.prog w1 = .ok (.slice a' (n + k) cap') w2 ∧ w2.ownsRow base e size (.slice a' (n + k) cap') (n + k) (xs ++ news) ∧ w1.heap.size ≤ w2.heap.size ∧ Below base w1 w2 := by
  obtain ⟨v', w', hr, ho, hg, _, _⟩ := run_append_own_at w1 base T ty e i0 z size bytes hT hi hz0 hz1 hz2 hzs hsz v n xs h ad k cap news hl hk h1 (by unfold maxLen; omega) (Nat.le_trans (Nat.mul_le_mul hn hby) (by decide)) hb1
  have hvb := World.ownsRow.lt h
  have hbel : Below base w1 w' := ⟨hg.os, hg.tape, hg.output, hg.size, fun j hj => hg.block j (by omega) (fun e => by have := (hvb j e.symm).1; omega)⟩
  rcases own_val ho with ⟨e1, e2⟩ | ⟨g, cap', e1, -⟩
  · subst e1
    exact ⟨none, 0, w', by rw [hr, e2], by rw [e2] at ho ⊢; exact ho, hg.size, hbel⟩
  · subst e1
    exact ⟨_, cap', w', hr, ho, hg.size, hbel⟩
end
/-- The law's yard: memory, its lows, heights and handles. -/
structure Yr where
  b : Nat
  la : Sl
  ta : Sl
  ha : Sl
def Yr.row (y : Yr) : List Value := [.pointer (some ⟨y.b, 0, none⟩), .slice y.la.a y.la.n y.la.cap, .slice y.ta.a y.ta.n y.ta.cap, .slice y.ha.a y.ha.n y.ha.cap]
def Yr.v (y : Yr) : Value := .agg #[.pointer (some ⟨y.b, 0, none⟩), .slice y.la.a y.la.n y.la.cap, .slice y.ta.a y.ta.n y.ta.cap, .slice y.ha.a y.ha.n y.ha.cap]
theorem Yr.row_one (y : Yr) : ∀ v ∈ y.row, v.oneCell' = true := by
  intro v hv
  simp only [Yr.row, List.mem_cons, List.not_mem_nil, or_false] at hv
  rcases hv with rfl | rfl | rfl | rfl <;> rfl
/-- The handle of the first one of a row that is high enough. -/
def toHs (lv : Int) : List Int → List Int → Int
  | x :: xs, h :: hs => if lv < x then h else toHs lv xs hs
  | _, _ => 0
theorem toHs_no {lv : Int} : ∀ (xs hs : List Int), (∀ x, x ∈ xs → ¬ lv < x) → toHs lv xs hs = 0
  | [], hs, _ => by cases hs <;> rfl
  | x :: xs, [], _ => rfl
  | x :: xs, h :: hs, hn => by
    rw [toHs, if_neg (hn x List.mem_cons_self)]
    exact toHs_no xs hs fun y hy => hn y (List.mem_cons_of_mem _ hy)
theorem toHs_at {lv : Int} : ∀ (xs hs : List Int) (j : Nat) (x h : Int), xs[j]? = some x → lv < x → (∀ k y, k < j → xs[k]? = some y → ¬ lv < y) → hs[j]? = some h → toHs lv xs hs = h
  | [], _, j, x, h, hx, _, _, _ => by simp at hx
  | _ :: _, [], j, x, h, _, _, _, hh => by simp at hh
  | y :: xs, k :: hs, 0, x, h, hx, hv, _, hh => by
    simp at hx hh
    subst hx hh
    rw [toHs, if_pos hv]
  | y :: xs, k :: hs, j + 1, x, h, hx, hv, hn, hh => by
    rw [toHs, if_neg (hn 0 y (by omega) rfl)]
    exact toHs_at xs hs j x h (by simpa using hx) hv (fun k' z hk hz => hn (k' + 1) z (by omega) (by simpa using hz)) (by simpa using hh)
theorem refTo_hs {hts hs : List Int} {i : Nat} {lv r : Int} (h : RefTo hts i lv r) (hl : hs.length = hts.length) : toHs lv (hts.drop (i + 1)) (hs.drop (i + 1)) = if 0 ≤ r then hs.getD r.toNat 0 else 0 := by
  rcases h with ⟨rfl, h⟩ | ⟨j, x, rfl, hij, hx, hv, hn⟩
  · rw [if_neg (by omega)]
    refine toHs_no _ _ fun y hy => ?_
    obtain ⟨k, hk, rfl⟩ := List.mem_iff_getElem.1 hy
    refine h (i + 1 + k) _ (by omega) ?_
    rw [← List.getElem?_drop]
    exact List.getElem?_eq_getElem hk
  · have hj := (List.getElem?_eq_some_iff.1 hx).1
    rw [if_pos (by omega), Int.toNat_natCast]
    obtain ⟨d, rfl⟩ : ∃ d, j = i + 1 + d := ⟨j - (i + 1), by omega⟩
    have hh : hs[i + 1 + d]? = some (hs.getD (i + 1 + d) 0) := by rw [List.getD_eq_getElem?_getD, List.getElem?_eq_getElem (by omega)]; rfl
    exact toHs_at _ _ d x _ (by rw [List.getElem?_drop]; exact hx) hv (fun k y hk hy => hn (i + 1 + k) y (by omega) (by omega) (by rw [← List.getElem?_drop]; exact hy)) (by rw [List.getElem?_drop]; exact hh)
/-- The words of the links of a place. -/
def linksL (hts hs : List Int) (i n : Nat) : List Int := (List.range n).map fun (k : Nat) => tword (toHs (k : Int) (hts.drop (i + 1)) (hs.drop (i + 1))) (9 + (k : Int))
theorem linksL_length (hts hs : List Int) (i n : Nat) : (linksL hts hs i n).length = n := by simp [linksL]
theorem linksL_succ (hts hs : List Int) (i n : Nat) : linksL hts hs i (n + 1) = linksL hts hs i n ++ [tword (toHs (n : Int) (hts.drop (i + 1)) (hs.drop (i + 1))) (9 + (n : Int))] := by
  simp [linksL, List.range_succ]
set_option maxHeartbeats 2000000 in
theorem links_any (y : Yr) (w : World) (hts hs : List Int) (hl : hs.length = hts.length) (hlen : hts.length ≤ 1000000) (ht : NRow w y.ta.a hts) (hh : NRow w y.ha.a hs) (htn : y.ta.n = hts.length) (hhn : y.ha.n = hs.length) (i N : Nat) (hx : hts[i]? = some (N : Int)) (hN : N ≤ 100) :
    Calls Tryd.prog 21 #[y.v, .int .i64 (i : Int)] w fun e w' => ∃ a cap, e = .returned (.slice a N cap) ∧ w'.ownsRow (w.heap.size + 1) 3 1 (.slice a N cap) N (ints (linksL hts hs i N)) ∧ Below w.heap.size w w' := by
  obtain ⟨wa, hwa⟩ : ∃ W, W = w.alloc (.cells y.row.toArray 29) := ⟨_, rfl⟩
  have hba : Below w.heap.size w wa := by rw [hwa]; exact (Below.refl _ _).alloc (Nat.le_refl _) _
  have hsz : wa.heap.size = w.heap.size + 1 := by rw [hwa]; simp
  have sy : SVar wa w.heap.size y.row := by rw [hwa]; exact snew _ _ _
  obtain ⟨n, hn⟩ : ∃ n, n = hts.length := ⟨_, rfl⟩
  have hi := (List.getElem?_eq_some_iff.1 hx).1
  have hin : (i : Int) < (n : Int) := by omega
  have hn2 : n ≤ 1000000 := by omega
  have HW := Lib.hid hwa.symm
  have HB := Lib.hid (⟨hba, hsz⟩ : _ ∧ _)
  have HT := Lib.hid (ht.later hba)
  have HH := Lib.hid (hh.later hba)
  have HN := Lib.hid (⟨hn, hl, hx⟩ : _ ∧ _ ∧ _)
  have c2 := sy.cell (i := 2) rfl
  have c3 := sy.cell (i := 3) rfl
  rw [htn, ← hn] at c2
  rw [hhn, hl, ← hn] at c3
  have HSy := Lib.hid sy
  have HY := Lib.hid (⟨htn, hhn⟩ : _ ∧ _)
  unfold Yr.v
  simp only [Yr.row] at HW
  rw [htn, hhn, hl, ← hn] at HW ⊢
  obtain ⟨g, o, eg, cx⟩ := HT.out.at_ hx
  have HEG := Lib.hid eg
  have hat : ∀ W, (Instr.indexAt 27 (.slice y.ta.a n y.ta.cap) (.int .i64 (i : Int))).run Tryd.prog W = .ok (.pointer (some ⟨g, o + i, none⟩)) W := fun W => by rw [eg]; exact at_27 g o n y.ta.cap i (by omega) W
  clear hwa hba hsz sy ht hh hn hl hx htn hhn eg
  go_enter Tryd.func21, Tryd.ntmps21
  go_wp2_with (first | rw [HW.out] | fail)
  go_loopw [5, 6] (fun ov kv wr => ∃ (k : Nat) (a : Option Addr) (cap : Nat), kv = .int .i64 (k : Int) ∧ ov = .slice a k cap ∧ k ≤ N ∧ Hid (Below (w.heap.size + 1) wa wr ∧ wr.ownsRow (w.heap.size + 1) 3 1 (.slice a k cap) k (ints (linksL hts hs i k)))) (fun _ kv _ => N - (intOf kv).toNat)
  case atStart => exact ⟨0, none, 0, rfl, rfl, Nat.zero_le _, Below.refl _ _, World.ownsRow_nil wa _ _ _⟩
  case round =>
    obtain ⟨k, a, cap, rfl, rfl, hk, HX⟩ := hrel
    have d2 : wr.cell? ⟨w.heap.size, 2, none⟩ = some (.slice y.ta.a n y.ta.cap) := by rw [HX.out.1.cell (p := ⟨w.heap.size, 2, none⟩) (Nat.lt_succ_self _)]; exact c2
    have d3 : wr.cell? ⟨w.heap.size, 3, none⟩ = some (.slice y.ha.a n y.ha.cap) := by rw [HX.out.1.cell (p := ⟨w.heap.size, 3, none⟩) (Nat.lt_succ_self _)]; exact c3
    have hbr : Below wa.heap.size wa wr := HX.out.1.mono (by rw [HB.out.2]; exact Nat.le_refl _)
    obtain ⟨g', o', eg', cx'⟩ := (HT.out.later hbr).at_ HN.out.2.2
    rw [HEG.out] at eg'
    cases eg'
    have hsz : w.heap.size + 1 ≤ wr.heap.size := by have := hbr.size; rw [HB.out.2] at this; exact this
    have hX1 := HX.out.1
    have hX2 := HX.out.2
    by_cases hlt : k < N
    · have hlt2 : (k : Int) < (N : Int) := by omega
      have hk0 : (0 : Int) ≤ (k : Int) := by omega
      have hrt := refTo_any wr y.ta.a y.ta.cap hts hlen (HT.out.later hbr) i (by omega) (k : Int)
      rw [← HN.out.1] at hrt
      have HB2 := Lib.hid (⟨hbr, hsz, hX1, hX2⟩ : _ ∧ _ ∧ _ ∧ _)
      clear hX1 hX2 HX hbr hsz
      go_wp2_with fail
      refine hrt.mono ?_
      rintro e w2 ⟨⟨r, rfl, hR⟩, rfl⟩
      have hval := refTo_hs hR HN.out.2.1
      obtain ⟨hv, hhv⟩ : ∃ hv, hv = toHs (k : Int) (hts.drop (i + 1)) (hs.drop (i + 1)) := ⟨_, rfl⟩
      have hw := fun w => tword_any hv (9 + (k : Int)) w
      obtain ⟨wb, hwb⟩ : ∃ W, W = wr.alloc (.cells #[.int .i64 (tword hv (9 + (k : Int)))] 3) := ⟨_, rfl⟩
      have hbb : Below wr.heap.size wr wb := by rw [hwb]; exact (Below.refl _ _).alloc (Nat.le_refl _) _
      have hap := fun ty => (let ⟨i0, hi, hz0, hz1, hz2⟩ := info_parts info3; own_app 27 8 i0 _ Tryd.underlying27 hi hz0 hz1 hz2 rfl (by decide) (own_later HB2.out.2.2.2 hbb) (by have := HB2.out.2.1; have := hbb.size; omega) ⟨wr.heap.size, 0, none⟩ 1 1 [.int .i64 (tword hv (9 + (k : Int)))] rfl (fun j u hu => by
        rw [add_off, hwb]
        have := (snew wr [.int .i64 (tword hv (9 + (k : Int)))] 3).at_ j u hu
        simpa using this) (by intro u hu; simp at hu; subst hu; rfl) (by omega) (by decide) ty)
      have HAp : Hid (∀ ty, ∃ v' w5, (Builtin.append_ #[27, 27] ty #[.slice a k cap, .slice (some ⟨wr.heap.size, 0, none⟩) 1 1]).run Tryd.prog wb = .ok v' w5 ∧ ∃ a' cap', v' = .slice a' (k + 1) cap' ∧ Hid (Below (w.heap.size + 1) wa w5 ∧ w5.ownsRow (w.heap.size + 1) 3 1 (.slice a' (k + 1) cap') (k + 1) (ints (linksL hts hs i (k + 1))))) := fun ty => by
        obtain ⟨a', cap', w5, h1, h2, h3, h4⟩ := hap ty
        refine ⟨_, w5, h1, a', cap', rfl, (HB2.out.2.2.1.trans (hbb.mono HB2.out.2.1)).trans h4, ?_⟩
        rw [linksL_succ, ← hhv, show ints (linksL hts hs i k ++ [tword hv (9 + (k : Int))]) = ints (linksL hts hs i k) ++ [.int .i64 (tword hv (9 + (k : Int)))] by simp [ints]]
        exact h2
      have HWB := Lib.hid hwb.symm
      rw [← hhv] at hval
      have hH := HH.out.later HB2.out.1
      clear hrt hwb hbb hap cx' hhv
      by_cases hr0 : 0 ≤ r
      · rw [if_pos hr0] at hval
        obtain ⟨j, rfl⟩ : ∃ j : Nat, r = (j : Int) := ⟨r.toNat, by omega⟩
        have hjn : j < n := by
          rcases hR with ⟨e, -⟩ | ⟨j', x, e, -, hx, -⟩
          · omega
          · have h1 := (List.getElem?_eq_some_iff.1 hx).1
            have h2 := HN.out.1
            omega
        rw [Int.toNat_natCast] at hval
        have hhj : hs[j]? = some hv := by
          rw [hval, List.getD_eq_getElem?_getD]
          rw [List.getElem?_eq_getElem (by rw [HN.out.2.1, ← HN.out.1]; exact hjn)]; rfl
        obtain ⟨g2, o2, eg2, cj⟩ := hH.at_ hhj
        have hat2 : ∀ W, (Instr.indexAt 27 (.slice y.ha.a n y.ha.cap) (.int .i64 (j : Int))).run Tryd.prog W = .ok (.pointer (some ⟨g2, o2 + j, none⟩)) W := fun W => by rw [eg2]; exact at_27 g2 o2 n y.ha.cap j hjn W
        clear hR hval hH hhj eg2
        go_wp2_with fail
        refine (hw _).mono ?_
        rintro e w3 ⟨rfl, rfl⟩
        clear hw
        generalize tword hv (9 + (k : Int)) = tw at HWB
        go_wp2_with (first | rw [HWB.out] | (at_builtin; refine append_run2 rfl (.tmp 30) (.tmp 35) 27 rfl rfl rfl HAp.out ?_; rintro v' w5 ⟨a', cap', rfl, HX2⟩; clear HAp) | fail)
        go_roundw
        case rel => exact ⟨k + 1, a', cap', by simp, rfl, by omega, HX2⟩
        case measure => simp [intOf]; omega
      · rw [if_neg hr0] at hval
        subst hval
        clear hR hH
        go_wp2_with fail
        refine (hw _).mono ?_
        rintro e w3 ⟨rfl, rfl⟩
        clear hw
        generalize tword 0 (9 + (k : Int)) = tw at HWB
        go_wp2_with (first | rw [HWB.out] | (at_builtin; refine append_run2 rfl (.tmp 30) (.tmp 35) 27 rfl rfl rfl HAp.out ?_; rintro v' w5 ⟨a', cap', rfl, HX2⟩; clear HAp) | fail)
        go_roundw
        case rel => exact ⟨k + 1, a', cap', by simp, rfl, by omega, HX2⟩
        case measure => simp [intOf]; omega
    · have hlt2 : ¬ (k : Int) < (N : Int) := by omega
      obtain rfl : k = N := by omega
      have HE : Hid (wr.ownsRow (w.heap.size + 1) 3 1 (.slice a k cap) k (ints (linksL hts hs i k)) ∧ Below w.heap.size w wr) := ⟨hX2, HB.out.1.trans (hX1.mono (Nat.le_succ _))⟩
      clear hX1 hX2 HX hbr hsz
      go_wp2_with fail
      go_ret
      exact ⟨a, cap, rfl, HE.out⟩
end Go.Proofs.YtibimnibmengpaaDoor
