/- The document's example holds. No condition. -/
import Derived.Test.YtjlifkhpohfiaaaTi
namespace Go.Proofs.Ytjlifkhpohfiaaa
open Go.RowKit Go.Op
set_option maxRecDepth 100000

theorem len_39 (a : Option Addr) (n c : Nat) (ty : TypeId) (w : World) : (Builtin.len_ #[39] ty #[.slice a n c]).run Try.prog w = .ok (.int .i64 (n : Int)) w := by
  go_simp
theorem at_39 (g o n cp k : Nat) (h : k < n) (w : World) : (Instr.indexAt 39 (.slice (some ⟨g, o, none⟩) n cp) (.int .i64 (k : Int))).run Try.prog w = .ok (.pointer (some ⟨g, o + k * 3, none⟩)) w := by
  have h1 : (k : Int) < (n : Int) := by omega
  go_simp
theorem at39_0 (g o n cp : Nat) (h : 0 < n) (w : World) : (Instr.indexAt 39 (.slice (some ⟨g, o, none⟩) n cp) (.int .i64 0)).run Try.prog w = .ok (.pointer (some ⟨g, o, none⟩)) w := at_39 g o n cp 0 h w
theorem eq_one {xo : Operand} (w : World) : (eqGuard .eql 3 xo (.const (.int .i64 1)) (.int .i64 1) (.int .i64 1)).run Try.prog w = .ok () w ∧ (binOp .eql 3 (.int .i64 1) (.int .i64 1)).run Try.prog w = .ok (.bool true) w := cmp_eql3 _ _ _ rfl
theorem sh54 : Shape 54 3 := ⟨⟨_, Try.underlying54, rfl⟩, by kernel_rfl⟩
theorem grd54 (op : BinOp) {xo yo : Operand} (a b c a' b' c' : Int) (w : World) : (eqGuard op 54 xo yo (swv a b c) (swv a' b' c')).run Try.prog w = .ok () w := by
  have h2 : Try.prog.eqGuardType Try.prog.depth 54 = false := by kernel_rfl
  unfold swv
  simp [eqGuard, h2]
theorem cmp_eql54 (a b c : Int) {xo yo : Operand} (w : World) : (eqGuard .eql 54 xo yo (swv a b c) (swv a b c)).run Try.prog w = .ok () w ∧ (binOp .eql 54 (swv a b c) (swv a b c)).run Try.prog w = .ok (.bool true) w := by
  refine ⟨grd54 _ _ _ _ _ _ _ _, ?_⟩
  unfold swv
  go_simp
def s0 : Spc := ⟨0, 0, 0, 0, false, false⟩
def s1 : Spc := ⟨0, 0, 0, 0, false, true⟩
def ex : List Spc := [s0, s1, s0]
theorem ex_relink : relinkL ex 9 3 = [(cellI 0 0, tword (handI 1) 5, tword (handI 2) 9)] := by
  have hh : hts ex = [1, 1, 1] := rfl
  have g0 : goneB ex 0 = false := rfl
  have g1 : goneB ex 1 = true := rfl
  have g2 : goneB ex 2 = false := rfl
  have hR : rtL ex 3 = [(1, false), (1, true), (1, false)] := rfl
  have f0 : firstH [1, 1, 1] 0 1 = some 1 := by rw [firstH_at (x := 1) rfl]; rfl
  have f2 : firstH [1, 1, 1] 0 3 = none := firstH_end (by decide)
  have r0 : refO (rtL ex 3) 0 0 = some 2 := by
    rw [hR]
    show firstR _ _ _ 0 = _
    rw [firstR_at (x := (1, false)) rfl, if_neg (by decide), firstR_at (x := (1, true)) rfl, if_neg (by decide), firstR_at (x := (1, false)) rfl, if_pos (by decide)]
  have r2 : refO (rtL ex 3) 2 0 = none := by
    rw [hR]
    show firstR _ _ _ 0 = _
    rw [firstR_at (x := (1, false)) rfl, if_neg (by decide), firstR_at (x := (1, true)) rfl, if_neg (by decide), firstR_at (x := (1, false)) rfl, if_neg (by decide), firstR_end (by decide)]
  have t0 : relinkT ex 9 0 = [(cellI 0 0, tword (handI 1) 5, tword (handI 2) 9)] := by
    unfold relinkT
    rw [g0, hh]
    show relink1 ex 9 0 0 ++ [] = _
    unfold relink1 linkI
    rw [hh]
    change (if tto (tword (handO (firstH [1, 1, 1] 0 1)) 5) = handO (refO (rtL ex 3) 0 0) then [] else [(cellI 0 0, tword (handO (firstH [1, 1, 1] 0 1)) 5, tword (handO (refO (rtL ex 3) 0 0)) 9)]) ++ [] = _
    rw [f0, r0]
    decide +kernel
  have t1 : relinkT ex 9 1 = [] := by unfold relinkT; rw [g1]; rfl
  have t2 : relinkT ex 9 2 = [] := by
    unfold relinkT
    rw [g2, hh]
    show relink1 ex 9 2 0 ++ [] = _
    unfold relink1 linkI
    rw [hh]
    change (if tto (tword (handO (firstH [1, 1, 1] 0 3)) 5) = handO (refO (rtL ex 3) 2 0) then [] else [(cellI 2 0, tword (handO (firstH [1, 1, 1] 0 3)) 5, tword (handO (refO (rtL ex 3) 2 0)) 9)]) ++ [] = _
    rw [f2, r2]
    decide +kernel
  show relinkT ex 9 0 ++ (relinkT ex 9 1 ++ (relinkT ex 9 2 ++ [])) = _
  rw [t0, t1, t2]
  rfl
theorem ex_ok : ∀ x, x ∈ ex → x.Ok := by
  intro x hx
  simp only [ex, List.mem_cons, List.not_mem_nil, or_false] at hx
  rcases hx with rfl | rfl | rfl <;> exact ⟨by decide, by decide, by decide, by decide⟩
/-- The towers of a row, as the laws make them. -/
theorem goesL_any (w : World) (va a : Option Addr) (vc cap : Nat) (vl : List (Vw × Vs)) (l : List Spc) (hV : VRow w va vl) (hI : VIs l l.length vl) (hvc : l.length ≤ vc) (hS : Specs w a l) :
    Calls Try.prog 10 #[.slice va l.length vc, .slice a l.length cap] w fun e w' => ∃ ta, e = .returned (.slice ta l.length l.length) ∧ ∃ tl, TRow w' ta tl ∧ TWIs l tl ∧ Below w.heap.size w w' := by
  have h := goes_any w va a vc cap vl l hV (by rw [hI.1]; exact hvc) hS hI.1.symm
  rw [hI.1] at h
  refine h.mono ?_
  rintro e w' ⟨g, rfl, tl, h1, h2, h3, h4⟩
  have hl : tl.length = l.length := by rw [h2.1, hI.1]
  obtain ⟨a1, c1, e1, -, hr⟩ := own_row h1
  cases e1
  exact ⟨some ⟨g, 0, none⟩, rfl, tl, ⟨hr, fun x hx => (h3 x hx).1, by have := hV.few; rw [hl, ← hI.1]; exact this⟩, twis_of hI (by rw [hI.1]; exact h2), h4⟩
set_option maxHeartbeats 4000000 in
theorem awake_any (w : World) : Calls Try.prog 8 #[] w fun e w' => e = .returned (.bool true) ∧ Below w.heap.size w w' := by
  obtain ⟨wa, hwa⟩ : ∃ W, W = w.alloc (.cells (ex.flatMap Spc.cells).toArray 66) := ⟨_, rfl⟩
  have hba : Below w.heap.size w wa := by rw [hwa]; exact al_below _ _
  have hSp : Specs wa (some ⟨w.heap.size, 0, none⟩) ex := ⟨.inr ⟨_, _, rfl, by rw [hwa]; exact (snew w (ex.flatMap Spc.cells) 66).lt, by rw [hwa]; exact (snew w (ex.flatMap Spc.cells) 66).at_⟩, ex_ok⟩
  have hr := row_any wa (some ⟨w.heap.size, 0, none⟩) 3 ex hSp (by decide) (by decide)
  have HB := Lib.hid hba
  have HSp := Lib.hid hSp
  have HW : Hid (w.alloc (.cells #[.int .u8 0, .int .u8 0, .int .u8 0, .int .u8 0, .bool false, .bool false, .int .u8 0, .int .u8 0, .int .u8 0, .int .u8 0, .bool false, .bool true, .int .u8 0, .int .u8 0, .int .u8 0, .int .u8 0, .bool false, .bool false] 66) = wa) := Lib.hid hwa.symm
  have e3 : ex.length = 3 := rfl
  have mixed : Try.prog.follows .mixedOrders = true := by kernel_rfl
  rw [e3] at hr
  clear hwa hba hSp
  go_enter Try.func8, Try.ntmps8
  go_wp2_with (first | rw [HW.out] | fail)
  refine hr.mono ?_
  rintro e w2 ⟨va, vc, vl, rfl, h1, h2, h3, h4⟩
  have hg := goesL_any w2 va (some ⟨w.heap.size, 0, none⟩) vc 3 vl ex h2 h1 h3 (HSp.out.later h4)
  have HB2 := Lib.hid (HB.out.trans (h4.mono HB.out.size))
  rw [e3] at hg
  clear hr h1 h2 h3 h4
  go_wp2_with fail
  refine hg.mono ?_
  rintro e w3 ⟨ta, rfl, tl, h1, h2, h3⟩
  have hrl := relink_any w3 ta 3 tl h1 (by rw [h2.1]; decide) (by rw [h2.1]; decide) (by rw [h2.1]; decide) (tw_few h2) 9
  rw [swaps_relink h2, h2.1, e3, ex_relink] at hrl
  have HB3 := Lib.hid (HB2.out.trans (h3.mono HB2.out.size))
  clear hg h1 h2 h3
  have e1 : [(cellI 0 0, tword (handI 1) 5, tword (handI 2) 9)].length = 1 := rfl
  rw [e1] at hrl
  go_wp2_with fail
  refine hrl.mono ?_
  rintro e w5 ⟨sa, sc, rfl, h1, h2⟩
  obtain ⟨gs, os, rfl, hgl, hsr⟩ : ∃ gs os, sa = some ⟨gs, os, none⟩ ∧ gs < w5.heap.size ∧ w5.rangeAt gs os (swRow [(cellI 0 0, tword (handI 1) 5, tword (handI 2) 9)]) := by
    obtain ⟨a1, c1, q1, -, hr⟩ := own_row h1
    cases q1
    rcases hr with e | h
    · cases e
    · exact h
  have HS : Hid (∀ W, Below w5.heap.size w5 W → (Instr.loadAt 54 (.pointer (some ⟨gs, os, none⟩))).run Try.prog W = .ok (swv (cellI 0 0) (tword (handI 1) 5) (tword (handI 2) 9)) W) := Lib.hid fun W hW => load_mid (sub := swc (cellI 0 0, tword (handI 1) 5, tword (handI 2) 9)) (rangeAt_same hsr (hW.block gs hgl)) sh54
  have HB5 := Lib.hid (HB3.out.trans (h2.mono HB3.out.size))
  clear hrl h1 h2 hgl hsr
  go_wp2_with fail
  refine FreeV.region_puts (S := fun _ _ W => Below w5.heap.size w5 W) (effs := [])
    (tab := [⟨3, fun _ => [.slice (some ⟨gs, os, none⟩) 1 sc], fun _ => .int .i64 1, .pure⟩,
      ⟨4, fun _ => [.int .i64 1, .int .i64 1], fun _ => .bool true, .pure⟩,
      ⟨8, fun _ => [.slice (some ⟨gs, os, none⟩) 1 sc, .int .i64 0], fun _ => .pointer (some ⟨gs, os, none⟩), .pure⟩,
      ⟨9, fun _ => [.pointer (some ⟨gs, os, none⟩)], fun _ => (swv (cellI 0 0) (tword (handI 1) 5) (tword (handI 2) 9)), .read⟩,
      ⟨10, fun _ => [.func (.func 19) #[] #[], .int .i64 0, .int .i64 0], fun _ => .int .i64 (cellI 0 0), .ask⟩,
      ⟨11, fun _ => [.func (.func 13) #[] #[], .int .i64 1], fun _ => .int .i64 (handI 1), .ask⟩,
      ⟨12, fun _ => [.func (.func 16) #[] #[], .int .i64 (handI 1), .int .i64 5], fun _ => .int .i64 (tword (handI 1) 5), .ask⟩,
      ⟨13, fun _ => [.func (.func 13) #[] #[], .int .i64 2], fun _ => .int .i64 (handI 2), .ask⟩,
      ⟨14, fun _ => [.func (.func 16) #[] #[], .int .i64 (handI 2), .int .i64 9], fun _ => .int .i64 (tword (handI 2) 9), .ask⟩,
      ⟨15, fun _ => [.int .i64 (cellI 0 0), .int .i64 (tword (handI 1) 5), .int .i64 (tword (handI 2) 9)], fun _ => (swv (cellI 0 0) (tword (handI 1) 5) (tword (handI 2) 9)), .read⟩,
      ⟨16, fun _ => [(swv (cellI 0 0) (tword (handI 1) 5) (tword (handI 2) 9)), (swv (cellI 0 0) (tword (handI 1) 5) (tword (handI 2) 9))], fun _ => .bool true, .pure⟩])
    (vs := [([], fun _ => .bool true), ([], fun _ => .bool true), ([], fun _ => .slice (some ⟨gs, os, none⟩) 1 sc), ([], fun _ => .int .i64 1), ([], fun _ => .bool true), ([], fun _ => .bool true), ([], fun _ => .bool true), ([], fun _ => .slice (some ⟨gs, os, none⟩) 1 sc), ([], fun _ => .pointer (some ⟨gs, os, none⟩)), ([], fun _ => (swv (cellI 0 0) (tword (handI 1) 5) (tword (handI 2) 9))), ([], fun _ => .int .i64 (cellI 0 0)), ([], fun _ => .int .i64 (handI 1)), ([], fun _ => .int .i64 (tword (handI 1) 5)), ([], fun _ => .int .i64 (handI 2)), ([], fun _ => .int .i64 (tword (handI 2) 9)), ([], fun _ => (swv (cellI 0 0) (tword (handI 1) 5) (tword (handI 2) 9))), ([], fun _ => .bool true), ([], fun _ => .bool true), ([], fun _ => .bool true)])
    (by kernel_rfl) ⟨by kernel_rfl, ⟨FreeV.d_len _ rfl rfl (fun _ => len_39 _ 1 _),
      FreeV.d_binc _ rfl rfl (fun _ xo W => eq_one W),
      FreeV.d_at _ rfl rfl (fun _ W => at39_0 gs os 1 sc (by decide) W),
      FreeV.d_load _ rfl rfl (fun β bs W hS hd => HS.out W hS),
      FreeV.d_ask2 _ rfl rfl enter_19 (fun β bs W hS hd => (cell_any 0 0 (by decide) (by decide) W).mono fun e w' h => ⟨h.1, h.2 ▸ hS⟩),
      FreeV.d_ask1 _ rfl rfl enter_13 (fun β bs W hS hd => (lhandle_any 1 W).mono fun e w' h => ⟨h.1, h.2 ▸ hS⟩),
      FreeV.d_ask2 _ rfl rfl enter_16 (fun β bs W hS hd => (tword_any _ 5 W).mono fun e w' h => ⟨h.1, h.2 ▸ hS⟩),
      FreeV.d_ask1 _ rfl rfl enter_13 (fun β bs W hS hd => (lhandle_any 2 W).mono fun e w' h => ⟨h.1, h.2 ▸ hS⟩),
      FreeV.d_ask2 _ rfl rfl enter_16 (fun β bs W hS hd => (tword_any _ 9 W).mono fun e w' h => ⟨h.1, h.2 ▸ hS⟩),
      d_build3 rfl rfl (fun β bs W hS hd => build_54 _ _ _ W),
      FreeV.d_bin _ rfl rfl (fun _ xo yo W => cmp_eql54 _ _ _ W),
      trivial⟩,
      fun β => by kernel_rfl, fun β => by kernel_rfl, by kernel_rfl, fun β => by kernel_rfl, by kernel_rfl⟩ (Below.refl _ _).drew (fun β => Free.from_ 18 [.bool true, .bool true, .slice (some ⟨gs, os, none⟩) 1 sc, .int .i64 1, .bool true, .bool true, .bool true, .slice (some ⟨gs, os, none⟩) 1 sc, .pointer (some ⟨gs, os, none⟩), (swv (cellI 0 0) (tword (handI 1) 5) (tword (handI 2) 9)), .int .i64 (cellI 0 0), .int .i64 (handI 1), .int .i64 (tword (handI 1) 5), .int .i64 (handI 2), .int .i64 (tword (handI 2) 9), (swv (cellI 0 0) (tword (handI 1) 5) (tword (handI 2) 9)), .bool true, .bool true] ++ [(0, .bool true)]) (fun β => by kernel_rfl) ?_
  intro β w6 h6
  rw [FreeX.puts_append, Free.puts_from _ _ _ (Nat.le_of_ble_eq_true rfl)]
  simp only [List.take_succ_cons, List.take_zero, List.drop_succ_cons, List.drop_zero, List.cons_append, List.nil_append, List.length_cons, List.length_nil, Nat.reduceAdd]
  unfold Free.puts
  simp only [List.foldl_cons, List.foldl_nil]
  have HE := Lib.hid (HB5.out.trans (h6.mono HB5.out.size))
  clear h6 HS
  go_wp2_with fail
  go_ret
  exact ⟨rfl, HE.out⟩
end Go.Proofs.Ytjlifkhpohfiaaa
