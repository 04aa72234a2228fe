/- What the law's Same answers of the same entries; the document's example holds. Condition: at most 1000000 entries. -/
import Derived.Test.YthglldnhffkefaaBWalkD
namespace Go.Proofs.Ythglldnhffkefaa
open Go.RowKit Go.Op
set_option maxRecDepth 100000

set_option maxHeartbeats 1000000 in
theorem same_any (a b : Option Addr) (l : List En) (c1 c2 : Nat) (w : World) (hl : l.length ≤ 1000000) (hA : Ents w a l) (hB : Ents w b l) :
    Calls Try.prog 12 #[.slice a l.length c1, .slice b l.length c2] w fun e w' => e = .returned (.int .i64 1) ∧ Below w.heap.size w w' := by
  have HA := Lib.hid hA
  have HB0 := Lib.hid hB
  have mixed : Try.prog.follows .mixedOrders = true := by kernel_rfl
  clear hA hB
  go_enter Try.func12, Try.ntmps12
  go_wp2
  go_loopw [5] (fun iv wr => ∃ i : Nat, i ≤ l.length ∧ iv = .int .i64 (i : Int) ∧ Hid (Below w.heap.size w wr)) (fun iv _ => l.length - (intOf iv).toNat)
  case atStart => exact ⟨0, by omega, rfl, Lib.hid (Below.refl _ _)⟩
  case round =>
    obtain ⟨i, hil, rfl, HB⟩ := hrel
    by_cases h1 : i < l.length
    · have i1 : (i : Int) < (l.length : Int) := by omega
      obtain ⟨ab, ao, rfl, hab, hx⟩ := HA.out.at h1
      obtain ⟨bb, bo, rfl, hbb, hy⟩ := HB0.out.at h1
      generalize l[i] = x at hx hy
      go_wp2_with fail
      refine FreeS.region_puts (S := fun _ W => Below w.heap.size w W) (sts := [])
        (tab := [(2, [.slice (some ⟨ab, ao, none⟩) l.length c1, .int .i64 (i : Int)], .pointer (some ⟨ab, ao + i * 3, none⟩), .pure),
          (4, [.pointer (some ⟨ab, ao + i * 3, none⟩)], .string x.key, .read),
          (7, [.slice (some ⟨bb, bo, none⟩) l.length c2, .int .i64 (i : Int)], .pointer (some ⟨bb, bo + i * 3, none⟩), .pure),
          (9, [.pointer (some ⟨bb, bo + i * 3, none⟩)], .string x.key, .read),
          (10, [.string x.key, .string x.key], .bool false, .pure),
          (14, [.slice (some ⟨ab, ao, none⟩) l.length c1, .int .i64 (i : Int)], .pointer (some ⟨ab, ao + i * 3, none⟩), .pure),
          (16, [.pointer (some ⟨ab, ao + i * 3 + 1, none⟩)], .string x.val, .read),
          (19, [.slice (some ⟨bb, bo, none⟩) l.length c2, .int .i64 (i : Int)], .pointer (some ⟨bb, bo + i * 3, none⟩), .pure),
          (21, [.pointer (some ⟨bb, bo + i * 3 + 1, none⟩)], .string x.val, .read),
          (22, [.string x.val, .string x.val], .bool false, .pure),
          (27, [.slice (some ⟨ab, ao, none⟩) l.length c1, .int .i64 (i : Int)], .pointer (some ⟨ab, ao + i * 3, none⟩), .pure),
          (29, [.pointer (some ⟨ab, ao + i * 3 + 2, none⟩)], .bool x.gone, .read),
          (32, [.slice (some ⟨bb, bo, none⟩) l.length c2, .int .i64 (i : Int)], .pointer (some ⟨bb, bo + i * 3, none⟩), .pure),
          (34, [.pointer (some ⟨bb, bo + i * 3 + 2, none⟩)], .bool x.gone, .read),
          (35, [.bool x.gone, .bool x.gone], .bool false, .pure)])
        (by kernel_rfl) ⟨by kernel_rfl, ⟨FreeS.d_at _ rfl rfl (fun w => at_25o _ _ _ _ _ (by omega) w),
          FreeS.d_load _ rfl rfl (fun w h => load_9 (hx.below h hab).1),
          FreeS.d_at _ rfl rfl (fun w => at_22 _ _ _ _ _ (by omega) w),
          FreeS.d_load _ rfl rfl (fun w h => load_9 (hy.below h hbb).1),
          FreeS.d_bin _ rfl rfl (fun xo yo w => cmp_neq9 xo yo w (by simp)),
          FreeS.d_at _ rfl rfl (fun w => at_25o _ _ _ _ _ (by omega) w),
          FreeS.d_load _ rfl rfl (fun w h => load_9 (hx.below h hab).2.1),
          FreeS.d_at _ rfl rfl (fun w => at_22 _ _ _ _ _ (by omega) w),
          FreeS.d_load _ rfl rfl (fun w h => load_9 (hy.below h hbb).2.1),
          FreeS.d_bin _ rfl rfl (fun xo yo w => cmp_neq9 xo yo w (by simp)),
          FreeS.d_at _ rfl rfl (fun w => at_25o _ _ _ _ _ (by omega) w),
          FreeS.d_load _ rfl rfl (fun w h => load_4 (hx.below h hab).2.2),
          FreeS.d_at _ rfl rfl (fun w => at_22 _ _ _ _ _ (by omega) w),
          FreeS.d_load _ rfl rfl (fun w h => load_4 (hy.below h hbb).2.2),
          FreeS.d_bin _ rfl rfl (fun xo yo w => cmp_neq4 xo yo w (by simp)),
          trivial⟩,
          by kernel_rfl, by kernel_rfl, by kernel_rfl⟩ (drew_below HB.out) (Free.from_ 17 [.slice (some ⟨ab, ao, none⟩) l.length c1, .int .i64 (i : Int), .pointer (some ⟨ab, ao + i * 3, none⟩), .pointer (some ⟨ab, ao + i * 3, none⟩), .string x.key, .slice (some ⟨bb, bo, none⟩) l.length c2, .int .i64 (i : Int), .pointer (some ⟨bb, bo + i * 3, none⟩), .pointer (some ⟨bb, bo + i * 3, none⟩), .string x.key, .bool false, .bool false, .slice (some ⟨ab, ao, none⟩) l.length c1, .int .i64 (i : Int), .pointer (some ⟨ab, ao + i * 3, none⟩), .pointer (some ⟨ab, ao + i * 3 + 1, none⟩), .string x.val, .slice (some ⟨bb, bo, none⟩) l.length c2, .int .i64 (i : Int), .pointer (some ⟨bb, bo + i * 3, none⟩), .pointer (some ⟨bb, bo + i * 3 + 1, none⟩), .string x.val, .bool false, .bool false, .bool false, .slice (some ⟨ab, ao, none⟩) l.length c1, .int .i64 (i : Int), .pointer (some ⟨ab, ao + i * 3, none⟩), .pointer (some ⟨ab, ao + i * 3 + 2, none⟩), .bool x.gone, .slice (some ⟨bb, bo, none⟩) l.length c2, .int .i64 (i : Int), .pointer (some ⟨bb, bo + i * 3, none⟩), .pointer (some ⟨bb, bo + i * 3 + 2, none⟩), .bool x.gone, .bool false, .bool false]) (by kernel_rfl) ?_
      intro w4 h4
      rw [Free.puts_from _ _ _ (Nat.le_of_ble_eq_true rfl)]
      simp only [List.take_succ_cons, List.take_zero, List.drop_succ_cons, List.drop_zero, List.cons_append, List.nil_append, List.length_cons, List.length_nil, Nat.reduceAdd]
      have HB4 := Lib.hid h4
      clear h4 hx hy
      go_wp2
      go_roundw
      case rel => exact ⟨i + 1, by omega, by go_num, HB4⟩
      case measure => simp [intOf]; omega
    · obtain rfl : i = l.length := by omega
      have i1 : ¬ (l.length : Int) < (l.length : Int) := by omega
      go_wp2
      go_ret
      exact ⟨rfl, HB.out⟩

def exE : En := ⟨⟨#[97]⟩, ⟨#[]⟩, false⟩
theorem ex_ok : okE exE = true := by decide
theorem ex_two : errL [exE, exE] = 1 := err_no fun h => by
  have := h.2.2.2 exE.key
  simp [ofKey] at this
theorem ex_one : errL [exE] = 0 := err_yes ⟨by simp, by simp, fun e he => by rw [List.mem_singleton.1 he]; exact ex_ok, fun k => Nat.le_trans (List.length_filter_le _ _) (by simp)⟩
theorem ents_two (w : World) (e : En) (t : TypeId) : Ents (w.alloc (.cells #[.string e.key, .string e.val, .bool e.gone, .string e.key, .string e.val, .bool e.gone] t)) (some ⟨w.heap.size, 0, none⟩) [e, e] := by
  refine .inr ⟨w.heap.size, 0, rfl, by simp, fun k hk => ?_⟩
  match k, hk with
  | 0, _ => exact ⟨by simp, by simp, by simp⟩
  | 1, _ => exact ⟨by simp, by simp, by simp⟩
theorem aw_two (w : World) : Calls Try.prog 10 #[.slice (some ⟨w.heap.size, 0, none⟩) 2 2] (w.alloc (.cells #[.string ⟨#[97]⟩, .string ⟨#[]⟩, .bool false, .string ⟨#[97]⟩, .string ⟨#[]⟩, .bool false] 37)) fun e w' => e = .returned (.int .i64 1) ∧ Below (w.heap.size + 1) (w.alloc (.cells #[.string ⟨#[97]⟩, .string ⟨#[]⟩, .bool false, .string ⟨#[97]⟩, .string ⟨#[]⟩, .bool false] 37)) w' := by
  have := check_any (some ⟨w.heap.size, 0, none⟩) [exE, exE] 2 _ (by simp) (ents_two w exE 37) (fun h => by cases h)
  rw [ex_two] at this
  simpa [exE] using this
theorem aw_one (w : World) : Calls Try.prog 10 #[.slice (some ⟨w.heap.size, 0, none⟩) 1 1] (w.alloc (.cells #[.string ⟨#[97]⟩, .string ⟨#[]⟩, .bool false] 37)) fun e w' => e = .returned (.int .i64 0) ∧ Below (w.heap.size + 1) (w.alloc (.cells #[.string ⟨#[97]⟩, .string ⟨#[]⟩, .bool false] 37)) w' := by
  have := check_any (some ⟨w.heap.size, 0, none⟩) [exE] 1 _ (by simp) (ents_row1 w exE 37) (fun h => by cases h)
  rw [ex_one] at this
  simpa [exE] using this
set_option maxHeartbeats 1000000 in
theorem awake_any (w : World) : Calls Try.prog 7 #[] w fun e w' => e = .returned (.bool true) ∧ Below w.heap.size w w' := by
  go_enter Try.func7, Try.ntmps7
  go_wp2_with fail
  have h2 := aw_two (w.alloc (.cells #[.string ⟨#[97]⟩, .string ⟨#[]⟩, .bool false] 37))
  have hz : (w.alloc (.cells #[.string ⟨#[97]⟩, .string ⟨#[]⟩, .bool false] 37)).heap.size = w.heap.size + 1 := by simp
  rw [hz] at h2
  refine h2.mono ?_
  rintro e w1 ⟨rfl, b1⟩
  have s1 := b1.size
  simp at s1
  have c1 : w1.cell? ⟨w.heap.size, 0, none⟩ = some (.string ⟨#[97]⟩) := by rw [b1.cell (p := ⟨w.heap.size, 0, none⟩) (by show w.heap.size < w.heap.size + 1 + 1; omega)]; simp
  have c2 : w1.cell? ⟨w.heap.size, 1, none⟩ = some (.string ⟨#[]⟩) := by rw [b1.cell (p := ⟨w.heap.size, 1, none⟩) (by show w.heap.size < w.heap.size + 1 + 1; omega)]; simp
  have c3 : w1.cell? ⟨w.heap.size, 2, none⟩ = some (.bool false) := by rw [b1.cell (p := ⟨w.heap.size, 2, none⟩) (by show w.heap.size < w.heap.size + 1 + 1; omega)]; simp
  have B2 := ((Below.refl w.heap.size w).alloc (Nat.le_refl _) (.cells #[.string ⟨#[97]⟩, .string ⟨#[]⟩, .bool false] 37)).alloc (by simp) (.cells #[.string ⟨#[97]⟩, .string ⟨#[]⟩, .bool false, .string ⟨#[97]⟩, .string ⟨#[]⟩, .bool false] 37)
  have hm : w.heap.size ≤ w.heap.size + 1 + 1 := by omega
  have HB1 : Hid (Below w.heap.size w w1) := Lib.hid (B2.trans (b1.mono hm))
  clear B2 hm h2 hz
  clear b1
  go_wp2_with fail
  refine (aw_one _).mono ?_
  rintro e w2 ⟨rfl, b2⟩
  have HB2 : Hid (Below w.heap.size w w2) := Lib.hid ((HB1.out.alloc HB1.out.size _).trans (b2.mono (by have := HB1.out.size; omega)))
  clear b2
  go_wp2
  go_ret
  exact ⟨rfl, HB2.out⟩
end Go.Proofs.Ythglldnhffkefaa
