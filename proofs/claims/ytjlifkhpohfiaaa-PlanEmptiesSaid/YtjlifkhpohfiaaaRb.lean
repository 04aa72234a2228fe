/- What the law's heights answers. Condition: at most 1000 nodes. -/
import Derived.Test.YtjlifkhpohfiaaaRa
namespace Go.Proofs.Ytjlifkhpohfiaaa
open Go.RowKit Go.Op
set_option maxRecDepth 100000

theorem most_snoc : ∀ (l : List Spc) (x : Spc), most (l ++ [x]) = max (most l) (ht x)
  | [], x => by simp [most]; omega
  | y :: l, x => by
    rw [List.cons_append, most, most, most_snoc l x]
    omega
theorem take_succ {α : Type} {l : List α} {i : Nat} {x : α} (h : l[i]? = some x) : l.take (i + 1) = l.take i ++ [x] := by
  obtain ⟨hi, rfl⟩ := List.getElem?_eq_some_iff.1 h
  exact List.take_succ_eq_append_getElem hi
theorem nz_snoc (l : List Nat) (x : Nat) : ints (nz (l ++ [x])) = ints (nz l) ++ [.int .i64 (x : Int)] := by simp [ints, nz]
set_option maxHeartbeats 1000000 in
theorem heights_any (w : World) (a : Option Addr) (cap : Nat) (l : List Spc) (h : Specs w a l) (hl : l.length ≤ 1000) :
    Calls Try.prog 28 #[.slice a l.length cap] w fun e w' => ∃ v, e = .returned v ∧ w'.ownsRow w.heap.size 3 1 v l.length (ints (nz (hts l))) ∧ Below w.heap.size w w' := by
  obtain ⟨n, hn⟩ : ∃ n, n = l.length := ⟨_, rfl⟩
  have HN := Lib.hid hn
  have HR := Lib.hid h
  rw [← hn] at hl ⊢
  have hn2 : (n : Int) ≤ 1000 := by omega
  clear hn h
  go_enter Try.func28, Try.ntmps28
  go_wp2_with fail
  go_loopw [3, 4, 5] (fun ov mv iv wr => ∃ (j M : Nat) (oa : Option Addr) (oc : Nat), iv = .int .i64 (j : Int) ∧ mv = .int .i64 (M : Int) ∧ ov = .slice oa j oc ∧ j ≤ n ∧ M ≤ 6 ∧ Hid (M = most (l.take j)) ∧ Hid (Below w.heap.size w wr ∧ wr.ownsRow w.heap.size 3 1 (.slice oa j oc) j (ints (nz ((l.take j).map ht))))) (fun _ _ iv _ => n - (intOf iv).toNat)
  case atStart => exact ⟨0, 1, none, 0, rfl, rfl, rfl, Nat.zero_le _, by omega, Lib.hid (by simp [most]), Lib.hid ⟨Below.refl _ _, World.ownsRow_nil _ _ _ _⟩⟩
  case round =>
    obtain ⟨j, M, oa, oc, rfl, rfl, rfl, hj, hM6, HM, HX⟩ := hrel
    by_cases hlt : j < n
    · have hlt2 : (j : Int) < (n : Int) := by omega
      obtain ⟨x, hx⟩ : ∃ x, l[j]? = some x := ⟨_, List.getElem?_eq_getElem (by rw [← HN.out]; exact hlt)⟩
      obtain ⟨g, o, ea, -, hc⟩ := (HR.out.later HX.out.1).at_ hx
      have hok := HR.out.ok x (List.mem_of_getElem? hx)
      have hat : ∀ W, (Instr.indexAt 22 (.slice a n cap) (.int .i64 (j : Int))).run Try.prog W = .ok (.pointer (some ⟨g, o + j * 6, none⟩)) W := fun W => by rw [ea]; exact at_22 g o n cap j hlt W
      have c0 := hc 0 _ rfl
      rw [Nat.add_zero] at c0
      have h256 : (x.hgt : Int) < 256 := by have := hok.1; omega
      obtain ⟨q, hq⟩ : ∃ q, q = ht x := ⟨_, rfl⟩
      have hq6 : q ≤ 6 := by rw [hq, ht]; omega
      have hqq : 1 + (x.hgt : Int) % 6 = (q : Int) := by rw [hq, ht]; omega
      obtain ⟨wb, hwb⟩ : ∃ W, W = wr.alloc (.cells #[.int .i64 (q : Int)] 3) := ⟨_, rfl⟩
      have hbb : Below wr.heap.size wr wb := by rw [hwb]; exact (Below.refl _ _).alloc (Nat.le_refl _) _
      have hsz := HX.out.1.size
      have hap := fun ty => sk35.app (own_later HX.out.2 hbb) (by have := hbb.size; omega) wr.heap.size [.int .i64 (q : Int)] (by rw [hwb]; exact (snew wr [.int .i64 (q : Int)] 3).at_) rfl (by intro u hu; simp at hu; subst hu; rfl) (by omega) ty
      have HAp : Hid (∀ ty, ∃ v' w5, (Builtin.append_ #[35, 35] ty #[.slice oa j oc, .slice (some ⟨wr.heap.size, 0, none⟩) 1 1]).run Try.prog wb = .ok v' w5 ∧ ∃ a' cap', v' = .slice a' (j + 1) cap' ∧ Hid (Below w.heap.size w w5 ∧ w5.ownsRow w.heap.size 3 1 (.slice a' (j + 1) cap') (j + 1) (ints (nz ((l.take (j + 1)).map ht))))) := Lib.hid fun ty => by
        obtain ⟨a', cap', w5, h1, h2, h3, h4, -⟩ := hap ty
        refine ⟨_, w5, h1, a', cap', rfl, (HX.out.1.trans (hbb.mono hsz)).trans h4, ?_⟩
        rw [take_succ hx, List.map_append, List.map_cons, List.map_nil, nz_snoc, ← hq]
        exact h2
      have HM2 : Hid (max M q = most (l.take (j + 1))) := Lib.hid (by rw [take_succ hx, most_snoc, ← HM.out, hq])
      have HQ := Lib.hid hqq
      have HWB := Lib.hid hwb.symm
      clear hc hok hx HM hq hqq hwb hbb hap HX HR ea
      go_wp2_with (first | rw [HQ.out] | rw [HWB.out] | (at_builtin; refine append_run2 rfl (.tmp 21) (.tmp 23) 35 rfl rfl rfl HAp.out ?_; rintro v' w5 ⟨a', cap', rfl, HX2⟩; clear HAp) | fail)
      go_roundw
      case rel => exact ⟨j + 1, max M q, a', cap', by simp, by simp; omega, rfl, by omega, by omega, HM2, HX2⟩
      case measure => simp [intOf]; omega
    · have hlt2 : ¬ (j : Int) < (n : Int) := by omega
      obtain rfl : j = n := by omega
      have HL : Hid (l.take j = l) := Lib.hid (List.take_of_length_le (by rw [← HN.out]; exact Nat.le_refl _))
      by_cases h0 : j = 0
      · subst h0
        have HE : Hid (wr.ownsRow w.heap.size 3 1 (.slice oa 0 oc) 0 (ints (nz (hts l)))) := Lib.hid (by
          have e : l = [] := List.length_eq_zero_iff.1 HN.out.symm
          have := HX.out.2
          rw [e] at this ⊢
          exact this)
        have HB := Lib.hid HX.out.1
        clear HX HM HL hlt
        go_wp2
        go_ret
        exact ⟨_, rfl, HE.out, HB.out⟩
      · have hj0 : (0 : Int) < (j : Int) := by omega
        have hown := HX.out.2
        rw [HL.out] at hown
        have HB := Lib.hid HX.out.1
        rcases own_val hown with ⟨-, e2⟩ | ⟨g, c', e1, hc', hb, hg, hr⟩
        · exact absurd e2 h0
        cases e1
        have hst := hown.stored 0 (.int .i64 (M : Int))
        have hne : l ≠ [] := fun e => by have := HN.out; rw [e] at this; exact h0 this
        obtain ⟨x0, l0, el⟩ := List.exists_cons_of_ne_nil hne
        have HE : Hid ((wr.setCell ⟨g, 0, none⟩ (.int .i64 (M : Int))).ownsRow w.heap.size 3 1 (.slice (some ⟨g, 0, none⟩) j oc) j (ints (nz (hts l))) ∧ Below w.heap.size w (wr.setCell ⟨g, 0, none⟩ (.int .i64 (M : Int)))) := Lib.hid (by
          refine ⟨?_, HB.out.trans ⟨hst.2.os, hst.2.tape, hst.2.output, hst.2.size, fun k hk => hst.2.block k (by have := HB.out.size; omega) (fun e => by cases e; omega)⟩⟩
          have h1 := hst.1
          have e : (ints (nz (l.map ht))).set 0 (.int .i64 (M : Int)) = ints (nz (hts l)) := by
            rw [HM.out, HL.out, el]
            rfl
          rw [e] at h1
          exact h1)
        have c0 : wr.cell? ⟨g, 0, none⟩ = some (.int .i64 (ht x0 : Int)) := by
          have := hr 0 (.int .i64 (ht x0 : Int)) (by rw [el]; rfl)
          rwa [Nat.add_zero] at this
        have f0 := hown.frozenAt 0
        clear HX HM HL hst el hr hown hne hlt hlt2
        go_wp2
        go_ret
        exact ⟨_, rfl, HE.out⟩
end Go.Proofs.Ytjlifkhpohfiaaa
