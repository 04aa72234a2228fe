/- What the reference's Check answers of any entries. Condition: at most 1000000 entries. -/
import Derived.Test.YthglldnhffkefaaBWalkC
namespace Go.Proofs.Ythglldnhffkefaa
open Go.RowKit Go.Op
set_option maxRecDepth 100000

theorem enter_24 (xs : Array Value) (w : World) : (callFunc 24 xs).run Try.prog w = .ok (.enter 24 xs) w := by kernel_rfl
theorem ok_iff {k v : ByteArray} {g : Bool} : okE ⟨k, v, g⟩ = true ↔ 0 < k.size ∧ k.size ≤ 1024 ∧ v.size ≤ 65536 ∧ (g = false ∨ ¬ 0 < v.size) := by
  unfold okE
  simp only [Bool.and_eq_true, decide_eq_true_eq, Bool.not_eq_true', Bool.and_eq_false_iff, decide_eq_false_iff_not, and_assoc]
/-- The place of a key among the first ones. -/
def findI (l : List En) (i : Nat) (k : ByteArray) : Int := if atK (l.take i) k < (l.take i).length then (atK (l.take i) k : Int) else -1
theorem find_keep {W0 w : World} {a : Option Addr} {l : List En} {i c : Nat} {k : ByteArray} {z : Int} (h : ∀ w, Ents w a (l.take i) → Calls Try.prog 24 #[.slice a i c, .string k] w fun e w' => e = .returned (.int .i64 z) ∧ w = w') (hE : Ents W0 a (l.take i)) (hb : Below W0.heap.size W0 w) :
    Calls Try.prog 24 #[.slice a i c, .string k] w fun e w' => e = .returned (.int .i64 z) ∧ Below W0.heap.size W0 w' :=
  (h w (hE.below hb)).mono fun _ _ h2 => ⟨h2.1, by rw [← h2.2]; exact hb⟩

set_option maxHeartbeats 2000000 in
theorem refcheck_any (a : Option Addr) (l : List En) (c : Nat) (w : World) (hl : l.length ≤ 1000000) (hC : Cut w a l c) :
    Calls Try.prog 11 #[.slice a l.length c] w fun e w' => e = .returned (.int .i64 (errL l)) ∧ Below w.heap.size w w' := by
  obtain ⟨V, hV⟩ : ∃ V, V = errL l := ⟨_, rfl⟩
  rw [← hV]
  have HV := Lib.hid hV
  clear hV
  by_cases h0 : l.length = 0
  · have d0 : ((l.length : Int) == 0) = true := by simp [h0]
    have HN := Lib.hid (err_no (l := l) (fun h => by have := h.1; omega))
    clear hC h0
    go_enter Try.func11, Try.ntmps11
    go_wp2
    go_ret
    exact ⟨errno_any (by rw [HV.out, HN.out]), Below.refl _ _⟩
  · have d0 : ((l.length : Int) == 0) = false := by simp; intro h; exact h0 (by simp [h])
    by_cases h4 : l.length ≤ 4096
    · have d4 : ¬ (4096 : Int) < (l.length : Int) := by omega
      have HC := Lib.hid hC
      have HL1 : Hid (1 ≤ l.length) := Lib.hid (by omega)
      have HL4 := Lib.hid h4
      clear hC h0
      go_enter Try.func11, Try.ntmps11
      go_wp2
      clear d0 d4
      go_loopw [3] (fun iv wr => ∃ i : Nat, i ≤ l.length ∧ iv = .int .i64 (i : Int) ∧ Hid (∀ e ∈ l.take i, okE e = true) ∧ Hid (Unlike (l.take i)) ∧ Hid (Below w.heap.size w wr)) (fun iv _ => l.length - (intOf iv).toNat)
      case atStart => exact ⟨0, by omega, rfl, Lib.hid (by simp), Lib.hid (fun k => by simp [ofKey]), Lib.hid (Below.refl _ _)⟩
      case round =>
        obtain ⟨i, hil, rfl, HOK, HU, HB⟩ := hrel
        by_cases h1 : i < l.length
        · have i1 : (i : Int) < (l.length : Int) := by omega
          obtain ⟨eb, eo, rfl, heb0, hc0⟩ := HC.out.e.at h1
          have hc := hc0.below HB.out heb0
          have hic : i ≤ c := Nat.le_trans hil HC.out.len
          have HSP := Lib.hid (split_at h1)
          have HTI : Hid (l.take (i + 1) = l.take i ++ [l[i]]) := Lib.hid (List.take_succ_eq_append_getElem h1)
          have HM := Lib.hid (List.getElem_mem h1)
          generalize l[i] = x at hc HSP HTI HM
          obtain ⟨k, v, gn⟩ := x
          obtain ⟨c1, c2, c3⟩ := hc
          simp only at c1 c2 c3
          clear hc0
          by_cases g0 : k.size = 0
          · have e0 : ((k.size : Int) == 0) = true := by simp [g0]
            have HN : ¬ goodP l := fun h => by have h8 := ok_iff.1 (h.2.2.1 _ HM.out); omega
            have HN := Lib.hid HN
            clear g0
            go_wp2
            go_ret
            exact ⟨errno_any (by rw [HV.out, err_no HN.out]), HB.out.alloc HB.out.size _⟩
          · have e0 : ((k.size : Int) == 0) = false := by simp; intro h; exact g0 (by simp [h])
            by_cases g1 : k.size ≤ 1024
            · have e1 : ¬ (1024 : Int) < (k.size : Int) := by omega
              by_cases g2 : v.size ≤ 65536
              · have e2 : ¬ (65536 : Int) < (v.size : Int) := by omega
                have hcs : (gn = true ∧ 0 < v.size) ∨ okE ⟨k, v, gn⟩ = true := by
                  by_cases h9 : gn = true ∧ 0 < v.size
                  · exact .inl h9
                  · right
                    rw [ok_iff]
                    refine ⟨by omega, g1, g2, ?_⟩
                    cases gn with
                    | false => exact .inl rfl
                    | true => exact .inr fun h => h9 ⟨rfl, h⟩
                rcases hcs with ⟨rfl, g3⟩ | hok
                · have e3 : (0 : Int) < (v.size : Int) := by omega
                  have HN : ¬ goodP l := fun h => by
                    rcases (ok_iff.1 (h.2.2.1 _ HM.out)).2.2.2 with h8 | h8
                    · cases h8
                    · exact h8 g3
                  have HN := Lib.hid HN
                  clear g0 g1 g2 g3
                  go_wp2
                  go_ret
                  exact ⟨errno_any (by rw [HV.out, err_no HN.out]), HB.out.alloc HB.out.size _⟩
                · have HG := Lib.hid hok
                  have e3 : gn = true → ¬ (0 : Int) < (v.size : Int) := fun h => by
                    rcases (ok_iff.1 hok).2.2.2 with h8 | h8
                    · rw [h] at h8; cases h8
                    · omega
                  have hf : Hid (∀ w, Ents w (some ⟨eb, eo, none⟩) (l.take i) → Calls Try.prog 24 #[.slice (some ⟨eb, eo, none⟩) i c, .string k] w fun e w' => e = .returned (.int .i64 (findI l i k)) ∧ w = w') := Lib.hid (fun w hw => by
                    have := reffind_any (some ⟨eb, eo, none⟩) (l.take i) c k w (by rw [List.length_take]; omega) hw
                    have e5 : (l.take i).length = i := by rw [List.length_take]; omega
                    unfold findI
                    rw [e5] at this ⊢
                    exact this)
                  obtain ⟨z, hz0⟩ : ∃ z, z = findI l i k := ⟨_, rfl⟩
                  rw [← hz0] at hf
                  have HFI := hf
                  have HZ := Lib.hid hz0
                  obtain ⟨W0, hW⟩ : ∃ W0, W0 = wr.alloc (.cells #[.string k, .string v, .bool gn] 53) := ⟨_, rfl⟩
                  have hW0 : W0.cell? ⟨wr.heap.size, 0, none⟩ = some (.string k) := by rw [hW]; simp
                  have hWs : wr.heap.size < W0.heap.size := by rw [hW]; simp
                  have hWb : Below w.heap.size w W0 := by rw [hW]; exact HB.out.alloc HB.out.size _
                  have hWe : Ents W0 (some ⟨eb, eo, none⟩) (l.take i) := (HC.out.take i).e.below hWb
                  have HWB := Lib.hid hWb
                  have HW := Lib.hid hW
                  clear hz0 hf g0 g1 g2 hok hW hWb
                  by_cases hzz : 0 ≤ z
                  · have hz : decide (0 ≤ z) = true := decide_eq_true hzz
                    have HN : Hid (¬ goodP l) := Lib.hid (fun h => by
                      have h8 := HZ.out
                      unfold findI at h8
                      split at h8
                      · rename_i h7
                        obtain ⟨e', he', hk'⟩ := atK_lt h7
                        have := h.2.2.2
                        rw [HSP.out] at this
                        exact unlike_twice he' hk' this
                      · omega)
                    cases gn
                    all_goals
                      have e3 := e3
                      first | (replace e3 := e3 rfl) | (clear e3)
                      go_wp2_with fail
                      rw [← HW.out]
                      refine FreeS.region_puts (S := fun _ W => Below W0.heap.size W0 W) (sts := [])
                        (tab := [(2, [.slice (some ⟨eb, eo, none⟩) l.length c, .int .i64 (i : Int)], .slice (some ⟨eb, eo, none⟩) i c, .pure),
                          (4, [.pointer (some ⟨wr.heap.size, 0, none⟩)], .string k, .read),
                          (5, [.func (.func 24) #[] #[], .slice (some ⟨eb, eo, none⟩) i c, .string k], .int .i64 z, .call 24 [.slice (some ⟨eb, eo, none⟩) i c, .string k]),
                          (6, [.int .i64 z, .int .i64 0], .bool true, .pure)])
                        (by kernel_rfl) ⟨by kernel_rfl, ⟨FreeS.d_hi _ rfl rfl (fun w => slice_hi (.inr rfl) hic HC.out.len HC.out.big HC.out.none HC.out.spot w),
                          FreeS.d_load _ rfl rfl (fun w h => load_9 (by rw [h.cell (p := ⟨wr.heap.size, 0, none⟩) hWs]; exact hW0)),
                          FreeS.d_call2 _ rfl rfl enter_24 (fun w h => find_keep HFI.out hWe h),
                          FreeS.d_bin _ rfl rfl (fun xo yo w => cmp_geq3 xo yo w hz),
                          trivial⟩,
                          by kernel_rfl, by kernel_rfl, by kernel_rfl⟩ ((Below.refl _ _).drew) (Free.from_ 49 [.slice (some ⟨eb, eo, none⟩) l.length c, .int .i64 (i : Int), .slice (some ⟨eb, eo, none⟩) i c, .pointer (some ⟨wr.heap.size, 0, none⟩), .string k, .int .i64 z, .bool true]) (by kernel_rfl) ?_
                      intro w4 h4
                      rw [Free.puts_from _ _ _ (Nat.le_of_ble_eq_true rfl)]
                      simp only [List.take_succ_cons, List.take_zero, List.drop_succ_cons, List.drop_zero, List.cons_append, List.nil_append, List.length_cons, List.length_nil, Nat.reduceAdd]
                      have HB4 := Lib.hid (HWB.out.trans (h4.mono HWB.out.size))
                      clear h4 hW0 hWs hWe hz hzz
                      go_wp2
                      go_ret
                      exact ⟨errno_any (by rw [HV.out, err_no HN.out]), HB4.out⟩
                  · have hz : decide (0 ≤ z) = false := decide_eq_false hzz
                    have HUN : Hid (Unlike (l.take (i + 1))) := Lib.hid (by
                      rw [HTI.out]
                      refine unlike_snoc HU.out (atK_ge fun h7 => ?_)
                      have h8 := HZ.out
                      unfold findI at h8
                      rw [if_pos h7] at h8
                      omega)
                    have HON : Hid (∀ e ∈ l.take (i + 1), okE e = true) := Lib.hid (by
                      rw [HTI.out]
                      intro e he
                      rcases List.mem_append.1 he with he | he
                      · exact HOK.out e he
                      · rw [List.mem_singleton.1 he]; exact HG.out)
                    cases gn
                    all_goals
                      have e3 := e3
                      first | (replace e3 := e3 rfl) | (clear e3)
                      go_wp2_with fail
                      rw [← HW.out]
                      refine FreeS.region_puts (S := fun _ W => Below W0.heap.size W0 W) (sts := [])
                        (tab := [(2, [.slice (some ⟨eb, eo, none⟩) l.length c, .int .i64 (i : Int)], .slice (some ⟨eb, eo, none⟩) i c, .pure),
                          (4, [.pointer (some ⟨wr.heap.size, 0, none⟩)], .string k, .read),
                          (5, [.func (.func 24) #[] #[], .slice (some ⟨eb, eo, none⟩) i c, .string k], .int .i64 z, .call 24 [.slice (some ⟨eb, eo, none⟩) i c, .string k]),
                          (6, [.int .i64 z, .int .i64 0], .bool false, .pure)])
                        (by kernel_rfl) ⟨by kernel_rfl, ⟨FreeS.d_hi _ rfl rfl (fun w => slice_hi (.inr rfl) hic HC.out.len HC.out.big HC.out.none HC.out.spot w),
                          FreeS.d_load _ rfl rfl (fun w h => load_9 (by rw [h.cell (p := ⟨wr.heap.size, 0, none⟩) hWs]; exact hW0)),
                          FreeS.d_call2 _ rfl rfl enter_24 (fun w h => find_keep HFI.out hWe h),
                          FreeS.d_bin _ rfl rfl (fun xo yo w => cmp_geq3 xo yo w hz),
                          trivial⟩,
                          by kernel_rfl, by kernel_rfl, by kernel_rfl⟩ ((Below.refl _ _).drew) (Free.from_ 49 [.slice (some ⟨eb, eo, none⟩) l.length c, .int .i64 (i : Int), .slice (some ⟨eb, eo, none⟩) i c, .pointer (some ⟨wr.heap.size, 0, none⟩), .string k, .int .i64 z, .bool false]) (by kernel_rfl) ?_
                      intro w4 h4
                      rw [Free.puts_from _ _ _ (Nat.le_of_ble_eq_true rfl)]
                      simp only [List.take_succ_cons, List.take_zero, List.drop_succ_cons, List.drop_zero, List.cons_append, List.nil_append, List.length_cons, List.length_nil, Nat.reduceAdd]
                      have HB4 := Lib.hid (HWB.out.trans (h4.mono HWB.out.size))
                      clear h4 hW0 hWs hWe hz hzz
                      go_wp2
                      go_roundw
                      case rel => exact ⟨i + 1, by omega, by go_num, HON, HUN, HB4⟩
                      case measure => simp [intOf]; omega
              · have e2 : (65536 : Int) < (v.size : Int) := by omega
                have HN : ¬ goodP l := fun h => by have h8 := ok_iff.1 (h.2.2.1 _ HM.out); omega
                have HN := Lib.hid HN
                clear g0 g1 g2
                go_wp2
                go_ret
                exact ⟨errno_any (by rw [HV.out, err_no HN.out]), HB.out.alloc HB.out.size _⟩
            · have e1 : (1024 : Int) < (k.size : Int) := by omega
              have HN : ¬ goodP l := fun h => by have h8 := ok_iff.1 (h.2.2.1 _ HM.out); omega
              have HN := Lib.hid HN
              clear g0 g1
              go_wp2
              go_ret
              exact ⟨errno_any (by rw [HV.out, err_no HN.out]), HB.out.alloc HB.out.size _⟩
        · obtain rfl : i = l.length := by omega
          have i1 : ¬ (l.length : Int) < (l.length : Int) := by omega
          have hg : goodP l := ⟨HL1.out, HL4.out, by have := HOK.out; rwa [List.take_length] at this, by have := HU.out; rwa [List.take_length] at this⟩
          have HG := Lib.hid hg
          clear hg
          go_wp2
          go_ret
          exact ⟨errno_any (by rw [HV.out, err_yes HG.out]), HB.out⟩
    · have d4 : (4096 : Int) < (l.length : Int) := by omega
      have HN := Lib.hid (err_no (l := l) (fun h => h4 h.2.1))
      clear hC h0 h4
      go_enter Try.func11, Try.ntmps11
      go_wp2
      go_ret
      exact ⟨errno_any (by rw [HV.out, HN.out]), Below.refl _ _⟩
end Go.Proofs.Ythglldnhffkefaa
