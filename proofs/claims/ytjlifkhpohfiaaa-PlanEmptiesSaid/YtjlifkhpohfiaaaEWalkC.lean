/- What slices.DeleteFunc leaves of a row of entries of the call's own: those that aren't gone. Conditions: at most 1000000 entries. -/
import Derived.Test.YtjlifkhpohfiaaaEWalkB
namespace Go.Proofs.Ytjlifkhpohfiaaa
open Go.RowKit Go.Op
set_option maxRecDepth 100000

theorem live_take {l : List En} {j : Nat} (hj : j < l.length) : liveL (l.take (j + 1)) = if l[j].gone then liveL (l.take j) else liveL (l.take j) ++ [l[j]] := by
  rw [List.take_succ_eq_append_getElem hj]
  unfold liveL
  rw [List.filter_append, List.filter_cons]
  cases l[j].gone <;> simp
theorem live_first {l : List En} (h : goneAt l < l.length) : liveL (l.take (goneAt l + 1)) = l.take (goneAt l) := by
  rw [live_take h]
  have h1 : l[goneAt l].gone = true := List.findIdx_getElem (w := h)
  rw [h1, if_pos rfl]
  refine live_all fun e he => ?_
  obtain ⟨i, hi, rfl⟩ := List.mem_iff_getElem.1 he
  rw [List.length_take] at hi
  have h2 : i < goneAt l := by omega
  rw [List.getElem_take]
  simpa using List.not_of_lt_findIdx h2
theorem live_none {l : List En} (h : ¬ goneAt l < l.length) : liveL l = l := by
  refine live_all fun e he => ?_
  obtain ⟨i, hi, rfl⟩ := List.mem_iff_getElem.1 he
  have h2 : i < goneAt l := by omega
  simpa using List.not_of_lt_findIdx h2
theorem row_next {M l : List En} {i j : Nat} (hj : j < l.length) (hM : M.length = l.length) (hij : i < j) (h1 : M.take i = liveL (l.take j)) (h2 : M.drop j = l.drop j) (hg : l[j].gone = false) :
    (M.set i l[j]).take (i + 1) = liveL (l.take (j + 1)) ∧ (M.set i l[j]).drop (j + 1) = l.drop (j + 1) := by
  have hiM : i < M.length := by omega
  refine ⟨?_, ?_⟩
  · rw [live_take hj, hg, if_neg (by simp), ← h1, List.take_succ_eq_append_getElem (by rw [List.length_set]; exact hiM), List.getElem_set_self, List.take_set_of_le (Nat.le_refl i)]
  · rw [List.drop_set_of_lt (by omega), ← List.drop_drop, h2, List.drop_drop]
theorem row_same {M l : List En} {i j : Nat} (hj : j < l.length) (h1 : M.take i = liveL (l.take j)) (h2 : M.drop j = l.drop j) (hg : l[j].gone = true) :
    M.take i = liveL (l.take (j + 1)) ∧ M.drop (j + 1) = l.drop (j + 1) := by
  refine ⟨?_, ?_⟩
  · rw [live_take hj, hg, if_pos rfl, h1]
  · rw [← List.drop_drop, h2, List.drop_drop]
theorem row_at {M l : List En} {j : Nat} (hj : j < l.length) (hM : M.length = l.length) (h2 : M.drop j = l.drop j) : M[j]'(by omega) = l[j] := by
  have := congrArg (fun x : List En => x[0]?) h2
  simp only [List.getElem?_drop, Nat.add_zero] at this
  rw [List.getElem?_eq_getElem (by omega), List.getElem?_eq_getElem hj] at this
  exact Option.some.inj this
theorem ret_v {a b : Value} (h : a = b) : Ending.returned a = .returned b := by rw [h]
theorem OwnE.ents2 {T : Nat} {w : World} {base g cap : Nat} {l : List En} (h : OwnE T w base (.slice (some ⟨g, 0, none⟩) l.length cap) l) : Ents w (some ⟨g, 0, none⟩) l := by
  obtain ⟨a, c, e, h1, _⟩ := h.ents
  simp only [Value.slice.injEq] at e
  rw [e.1]
  exact h1

set_option maxHeartbeats 4000000 in
theorem delete_any (g cap base : Nat) (l : List En) (w : World) (hl : l.length ≤ 1000000) (hbase : base ≤ w.heap.size) (hown : OwnE 77 w base (.slice (some ⟨g, 0, none⟩) l.length cap) l) :
    Calls Try.prog 52 #[.slice (some ⟨g, 0, none⟩) l.length cap, .func (.func 53) #[] #[]] w fun e w' => e = .returned (.slice (some ⟨g, 0, none⟩) (liveL l).length cap) ∧ OwnE 77 w' base (.slice (some ⟨g, 0, none⟩) (liveL l).length cap) (liveL l) ∧ Below base w w' := by
  have hix := index_any (some ⟨g, 0, none⟩) l cap w hl hown.ents2
  obtain ⟨hcap, hcm, hgb, hgl⟩ := hown.cap
  by_cases h0 : goneAt l < l.length
  · rw [show goneV l = (goneAt l : Int) by unfold goneV; rw [if_pos h0]] at hix
    have HF := Lib.hid (live_first h0)
    have HI := Lib.hid (fun i (h1 : i ≤ goneAt l) (hi : i < l.length) => gone_step h1 hi)
    have HO := Lib.hid hown
    have HLL : Hid (liveL (l.take l.length) = liveL l) := Lib.hid (by rw [List.take_length])
    generalize goneAt l = i0 at h0 hix HF HI
    have e1 : ((i0 : Int) == -1) = false := by simp
    clear hown
    go_enter Try.func52, Try.ntmps52
    go_wp2_with fail
    refine hix.mono ?_
    rintro e w1 ⟨rfl, b1⟩
    have o1 := HO.out.below b1
    have s1 := b1.size
    have HO1 := Lib.hid o1
    have HB1 := Lib.hid (b1.mono hbase)
    clear o1 b1
    go_wp2
    clear e1
    go_loopw [5, 6] (fun iv jv wr => ∃ (i j : Nat) (M : List En), iv = .int .i64 (i : Int) ∧ jv = .int .i64 (j : Int) ∧ i < j ∧ j ≤ l.length ∧ M.length = l.length ∧ Hid (M.take i = liveL (l.take j)) ∧ Hid (M.drop j = l.drop j) ∧ Hid (OwnE 77 wr base (.slice (some ⟨g, 0, none⟩) l.length cap) M) ∧ Hid (Below base w wr) ∧ w.heap.size ≤ wr.heap.size) (fun _ jv _ => l.length - (intOf jv).toNat)
    case atStart => exact ⟨i0, i0 + 1, l, rfl, by go_num, by omega, by omega, rfl, Lib.hid (by rw [HF.out]), Lib.hid rfl, HO1, HB1, s1⟩
    case round =>
      obtain ⟨i, j, M, rfl, rfl, hij, hjl, hM, H1, H2, HW, HBw, hsz⟩ := hrel
      by_cases h1 : j < l.length
      · have i1 : (j : Int) < (l.length : Int) := by omega
        have i2 : (i : Int) < (l.length : Int) := by omega
        have hat : EnAt wr g (j * 3) l[j] := by
          have := HW.out
          rw [← hM] at this
          have h3 := this.at (i := j) (by omega)
          rwa [row_at h1 hM H2.out] at h3
        have HN : l[j].gone = false → Hid _ := fun hg => Lib.hid (row_next h1 hM hij H1.out H2.out hg)
        have HS : l[j].gone = true → Hid _ := fun hg => Lib.hid (row_same h1 H1.out H2.out hg)
        generalize l[j] = x at hat HN HS
        have hg := fun w => gone_any x w
        have HC : Hid (∀ w', Below wr.heap.size wr w' → (∃ y, EnAt w' g (i * 3) y) ∧ (∀ j, w'.frozen? ⟨g, j, none⟩ = false) ∧ OwnE 77 (((w'.setCell ⟨g, i * 3, none⟩ (.string x.key)).setCell ⟨g, i * 3 + 1, none⟩ (.string x.val)).setCell ⟨g, i * 3 + 2, none⟩ (.bool x.gone)) base (.slice (some ⟨g, 0, none⟩) l.length cap) (M.set i x)) := Lib.hid (fun w' hb => by
          have h3 := HW.out.below hb
          rw [← hM] at h3 ⊢
          exact ⟨⟨_, h3.at (i := i) (by omega)⟩, World.ownsRow.frozenAt h3, h3.set (by omega) x⟩)
        have HBs := Lib.hid (fun w' (hb : Below wr.heap.size wr w') => HW.out.below hb)
        obtain ⟨c1, c2, c3⟩ := hat
        obtain ⟨k, v, gn⟩ := x
        simp only [En.v] at hg c1 c2 c3
        cases gn
        · replace HN := HN rfl
          clear HS
          go_wp2_with fail
          refine (hg _).mono ?_
          rintro e w2 ⟨rfl, b2⟩
          have s2 := b2.size
          simp at s2
          have d1 : w2.cell? ⟨wr.heap.size, 0, none⟩ = some (.string k) := keep b2 (by simp [go_sem]) (by simp)
          have d2 : w2.cell? ⟨wr.heap.size, 1, none⟩ = some (.string v) := keep b2 (by simp [go_sem]) (by simp)
          have d3 : w2.cell? ⟨wr.heap.size, 2, none⟩ = some (.bool false) := keep b2 (by simp [go_sem]) (by simp)
          have b3 : Below wr.heap.size wr w2 := ((Below.refl wr.heap.size wr).alloc (Nat.le_refl _) _).trans (b2.mono (by simp))
          obtain ⟨⟨y, y1, y2, y3⟩, hfz, hset⟩ := HC.out w2 b3
          have f1 := hfz (i * 3)
          have f2 := hfz (i * 3 + 1)
          have f3 := hfz (i * 3 + 2)
          have HSet := Lib.hid hset
          have HBn := Lib.hid ((((HBw.out.trans (b3.mono (by omega))).setCell (p := ⟨g, i * 3, none⟩) hgb (.string k)).setCell (p := ⟨g, i * 3 + 1, none⟩) hgb (.string v)).setCell (p := ⟨g, i * 3 + 2, none⟩) hgb (.bool false))
          clear hfz hset b2 b3 hg
          go_wp2
          go_roundw
          case rel =>
            exact ⟨i + 1, j + 1, M.set i ⟨k, v, false⟩, by go_num, by go_num, by omega, by omega, by rw [List.length_set]; exact hM, Lib.hid HN.out.1, Lib.hid HN.out.2, HSet, HBn, by simp [World.setCell]; omega⟩
          case measure => simp [intOf]; omega
        · replace HS := HS rfl
          clear HN
          go_wp2_with fail
          refine (hg _).mono ?_
          rintro e w2 ⟨rfl, b2⟩
          have s2 := b2.size
          simp at s2
          have b3 : Below wr.heap.size wr w2 := ((Below.refl wr.heap.size wr).alloc (Nat.le_refl _) _).trans (b2.mono (by simp))
          have HOn := Lib.hid (HBs.out w2 b3)
          have HBn := Lib.hid (HBw.out.trans (b3.mono (by omega)))
          clear b2 b3 hg
          go_wp2
          go_roundw
          case rel => exact ⟨i, j + 1, M, rfl, by go_num, by omega, by omega, hM, Lib.hid HS.out.1, Lib.hid HS.out.2, HOn, HBn, by omega⟩
          case measure => simp [intOf]; omega
      · obtain rfl : j = l.length := by omega
        have i1 : ¬ (l.length : Int) < (l.length : Int) := by omega
        have i2 : (0 : Int) ≤ (i : Int) := by omega
        have i3 : (i : Int) ≤ (l.length : Int) := by omega
        have i4 : (i : Int) ≤ (cap : Int) := by omega
        have i5 : (l.length : Int) ≤ (cap : Int) := by omega
        have HW2 : Hid (OwnE 77 wr base (.slice (some ⟨g, 0, none⟩) M.length cap) M) := Lib.hid (by rw [hM]; exact HW.out)
        have HT : Hid (M.take i = liveL l) := Lib.hid (by rw [H1.out, HLL.out])
        have hiL : (liveL l).length = i := by rw [← HT.out, List.length_take]; omega
        obtain ⟨w5, r5, o5, g5⟩ := clear_own wr 0 base g i cap (cap - i) M (by omega) HW2.out
        rw [hM] at r5
        rw [HT.out] at o5
        have HO5 := Lib.hid o5
        have HB5 := Lib.hid (HBw.out.grown g5 (by omega) (fun k hk => by cases hk; exact hgb))
        clear o5 g5
        go_wp2
        go_ret
        exact ⟨rfl, HO5.out, HB5.out⟩
  · have HL := Lib.hid (live_none h0)
    rw [show goneV l = -1 by unfold goneV; rw [if_neg h0]] at hix
    have HO := Lib.hid hown
    clear hown
    go_enter Try.func52, Try.ntmps52
    go_wp2_with fail
    refine hix.mono ?_
    rintro e w1 ⟨rfl, b1⟩
    go_wp2
    go_ret
    rw [HL.out]
    exact ⟨rfl, HO.out.below b1, b1.mono hbase⟩
end Go.Proofs.Ytjlifkhpohfiaaa
