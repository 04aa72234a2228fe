/- What batch.Check, and what it calls, answer of any entries. Condition: at most 1000000 entries. -/
import Derived.Test.YthglldnhffkefaaBMath
namespace Go.Proofs.Ythglldnhffkefaa
open Go.RowKit Go.Op
set_option maxRecDepth 100000

theorem wrong_any (e : En) (w : World) : Calls Try.prog 22 #[e.v] w fun r w' => r = .returned (.bool (!okE e)) ∧ Below w.heap.size w w' := by
  have hr := fun w => right_any e.key w
  have hf := fun w => fits_any e.val w
  obtain ⟨k, v, g⟩ := e
  have hk : okE ⟨k, v, g⟩ = (decide (0 < k.size) && decide (k.size ≤ 1024) && decide (v.size ≤ 65536) && !(g && decide (0 < v.size))) := rfl
  simp only [En.v]
  simp only at hr hf
  have B := (Below.refl w.heap.size w).alloc (Nat.le_refl _) (.cells #[.string k, .string v, .bool g] 37)
  by_cases h1 : 0 < k.size ∧ k.size ≤ 1024
  · rw [show (decide (0 < (k.size : Int)) && decide ((k.size : Int) ≤ 1024)) = true by simp; omega] at hr
    by_cases h2 : v.size ≤ 65536
    · rw [show decide ((v.size : Int) ≤ 65536) = true by simp; omega] at hf
      cases g with
      | false =>
        rw [show okE ⟨k, v, false⟩ = true by rw [hk]; simp [h1, h2]]
        clear hk h1 h2
        go_enter Try.func22, Try.ntmps22
        go_wp2_with fail
        refine (hr _).mono ?_
        rintro e w1 ⟨rfl, rfl⟩
        go_wp2_with fail
        refine (hf _).mono ?_
        rintro e w1 ⟨rfl, rfl⟩
        go_wp2
        go_ret
        exact ⟨rfl, B⟩
      | true =>
        by_cases h3 : v.size = 0
        · rw [show okE ⟨k, v, true⟩ = true by rw [hk]; simp [h1, h3]]
          have h4 : v.toList.isEmpty = true := by rw [List.isEmpty_iff_length_eq_zero, ByteArray.toList_eq]; exact h3
          clear hk h1 h2 h3
          go_enter Try.func22, Try.ntmps22
          go_wp2_with fail
          refine (hr _).mono ?_
          rintro e w1 ⟨rfl, rfl⟩
          go_wp2_with fail
          refine (hf _).mono ?_
          rintro e w1 ⟨rfl, rfl⟩
          go_wp2
          go_ret
          exact ⟨rfl, B⟩
        · rw [show okE ⟨k, v, true⟩ = false by rw [hk]; simp [h1, h2]; omega]
          have h4 : v.toList.isEmpty = false := by rw [Bool.eq_false_iff]; intro h; rw [List.isEmpty_iff_length_eq_zero, ByteArray.toList_eq] at h; exact h3 h
          clear hk h1 h2 h3
          go_enter Try.func22, Try.ntmps22
          go_wp2_with fail
          refine (hr _).mono ?_
          rintro e w1 ⟨rfl, rfl⟩
          go_wp2_with fail
          refine (hf _).mono ?_
          rintro e w1 ⟨rfl, rfl⟩
          go_wp2
          go_ret
          exact ⟨rfl, B⟩
    · rw [show decide ((v.size : Int) ≤ 65536) = false by simp; omega] at hf
      rw [show okE ⟨k, v, g⟩ = false by rw [hk]; simp [h2]]
      clear hk h1 h2
      go_enter Try.func22, Try.ntmps22
      go_wp2_with fail
      refine (hr _).mono ?_
      rintro e w1 ⟨rfl, rfl⟩
      go_wp2_with fail
      refine (hf _).mono ?_
      rintro e w1 ⟨rfl, rfl⟩
      go_wp2
      go_ret
      exact ⟨rfl, B⟩
  · have hrr : (decide (0 < (k.size : Int)) && decide ((k.size : Int) ≤ 1024)) = false := by
      by_cases h0 : 0 < k.size
      · have h9 : ¬ ((k.size : Int) ≤ 1024) := fun h => h1 ⟨h0, by omega⟩
        rw [decide_eq_false h9, Bool.and_false]
      · have h9 : ¬ (0 < (k.size : Int)) := by omega
        rw [decide_eq_false h9, Bool.false_and]
    rw [hrr] at hr
    clear hrr
    have hok : okE ⟨k, v, g⟩ = false := by
      rw [hk]
      by_cases h0 : 0 < k.size
      · have h9 : ¬ k.size ≤ 1024 := fun h => h1 ⟨h0, h⟩
        simp [h9]
      · simp [h0]
    rw [hok]
    clear hok
    clear hk h1
    go_enter Try.func22, Try.ntmps22
    go_wp2_with fail
    refine (hr _).mono ?_
    rintro e w1 ⟨rfl, rfl⟩
    go_wp2
    go_ret
    exact ⟨rfl, B⟩

/-- The first one that may not be there. -/
def badAt (l : List En) : Nat := l.findIdx fun e => !okE e
def badV (l : List En) : Int := if badAt l < l.length then (badAt l : Int) else -1
theorem bad_step {l : List En} {i : Nat} (h : i ≤ badAt l) (hi : i < l.length) : ((!okE l[i]) = true ∧ badAt l = i) ∨ ((!okE l[i]) = false ∧ i + 1 ≤ badAt l) := by
  rcases Nat.lt_or_ge i (badAt l) with h1 | h1
  · exact .inr ⟨by simpa using List.not_of_lt_findIdx h1, h1⟩
  · have e : badAt l = i := by omega
    have : badAt l < l.length := by omega
    have h2 := List.findIdx_getElem (w := this)
    subst e
    exact .inl ⟨h2, rfl⟩
theorem badwhere_any (a : Option Addr) (l : List En) (c : Nat) (w : World) (hl : l.length ≤ 1000000) (hE : Ents w a l) :
    Calls Try.prog 33 #[.slice a l.length c, .func (.func 22) #[] #[]] w fun e w' => e = .returned (.int .i64 (badV l)) ∧ Below w.heap.size w w' := by
  have HE := Lib.hid hE
  have HS := Lib.hid (fun i (h : i ≤ badAt l) (hi : i < l.length) => bad_step h hi)
  have hle : badAt l ≤ l.length := List.findIdx_le_length
  clear hE
  go_enter Try.func33, Try.ntmps33
  go_wp2
  go_loopw [8] (fun iv wr => ∃ i : Nat, i ≤ badAt l ∧ i ≤ l.length ∧ iv = .int .i64 (i : Int) ∧ Below w.heap.size w wr) (fun iv _ => l.length - (intOf iv).toNat)
  case atStart => exact ⟨0, by omega, by omega, rfl, Below.refl _ _⟩
  case round =>
    obtain ⟨i, hi, hil, rfl, hbr⟩ := hrel
    have so := hbr.size
    by_cases h1 : i < l.length
    · have i1 : (i : Int) < (l.length : Int) := by omega
      obtain ⟨g, off, rfl, hlt, hc⟩ := HE.out.at h1
      have hc' := hc.below hbr hlt
      have hs := HS.out i hi h1
      generalize l[i] = x at hc' hs
      obtain ⟨c1, c2, c3⟩ := hc'
      have hg := fun w => wrong_any x w
      generalize (!okE x) = ok at hg hs
      obtain ⟨k, v, gn⟩ := x
      simp only [En.v] at hg c1 c2 c3
      rcases hs with ⟨rfl, h3⟩ | ⟨rfl, h3⟩
      · have HX := Lib.hid h3
        clear h3
        go_wp2_with fail
        refine (hg _).mono ?_
        rintro e w1 ⟨rfl, b1⟩
        go_wp2
        go_ret
        exact ⟨ret_i64 (by have := HX.out; unfold badV; split <;> omega), hbr.trans (b1.mono so)⟩
      · go_wp2_with fail
        refine (hg _).mono ?_
        rintro e w1 ⟨rfl, b1⟩
        go_wp2
        go_roundw
        case rel => exact ⟨i + 1, h3, by omega, by go_num, hbr.trans (b1.mono so)⟩
        case measure => simp [intOf]; omega
    · have h2 : badAt l = l.length := by omega
      have HX := Lib.hid h2
      clear h2
      go_wp2
      go_ret
      exact ⟨ret_i64 (by have := HX.out; unfold badV; split <;> omega), hbr⟩
theorem hasbad_any (a : Option Addr) (l : List En) (c : Nat) (w : World) (hl : l.length ≤ 1000000) (hE : Ents w a l) :
    Calls Try.prog 21 #[.slice a l.length c, .func (.func 22) #[] #[]] w fun e w' => e = .returned (.bool (!l.all okE)) ∧ Below w.heap.size w w' := by
  have hi := badwhere_any a l c w hl hE
  have hb : (0 ≤ badV l) ↔ (!l.all okE) = true := by
    unfold badV
    split
    · rename_i h
      have h2 : okE l[badAt l] = false := by
        have h9 : (!okE l[badAt l]) = true := List.findIdx_getElem (w := h)
        simpa using h9
      constructor
      · intro _
        rw [Bool.not_eq_true', List.all_eq_false]
        exact ⟨_, List.getElem_mem h, by rw [h2]; simp⟩
      · intro _; omega
    · rename_i h
      constructor
      · intro h2; omega
      · intro h2
        rw [Bool.not_eq_true', List.all_eq_false] at h2
        obtain ⟨e, he, h3⟩ := h2
        exact absurd (List.findIdx_lt_length_of_exists ⟨e, he, by simpa using h3⟩) h
  generalize (!l.all okE) = r at hb
  generalize badV l = z at hi hb
  clear hE
  cases r with
  | true =>
    have h0 : (0 : Int) ≤ z := hb.2 rfl
    clear hb
    go_enter Try.func21, Try.ntmps21
    go_wp2_with fail
    refine hi.mono ?_
    rintro e w1 ⟨rfl, b1⟩
    go_wp2
    go_ret
    exact ⟨by first | rfl | (rw [show (decide (0 ≤ z)) = true from decide_eq_true (by omega)]; rfl), b1⟩
  | false =>
    have h0 : ¬ (0 : Int) ≤ z := fun h => by have := hb.1 h; cases this
    clear hb
    go_enter Try.func21, Try.ntmps21
    go_wp2_with fail
    refine hi.mono ?_
    rintro e w1 ⟨rfl, b1⟩
    go_wp2
    go_ret
    exact ⟨by first | rfl | (rw [show (decide (0 ≤ z)) = false from decide_eq_false (by omega)]; rfl), b1⟩

/-- Answered is whether a key stands twice. -/
def IsTw (e : Ending) (m : List En) : Prop := ∃ b, e = .returned (.bool b) ∧ (b = true ↔ ¬ Unlike m)
set_option maxHeartbeats 1000000 in
theorem twice_any (g off : Nat) (m : List En) (c : Nat) (w : World) (hl : m.length ≤ 1000000) (hE : Ents w (some ⟨g, off, none⟩) m) (hU : Up m) (h0 : 0 < m.length) :
    Calls Try.prog 23 #[.slice (some ⟨g, off, none⟩) m.length c] w fun e w' => IsTw e m ∧ Below w.heap.size w w' := by
  have HE := Lib.hid hE
  have HU := Lib.hid hU
  have mixed : Try.prog.follows .mixedOrders = true := by kernel_rfl
  clear hE hU
  go_enter Try.func23, Try.ntmps23
  go_wp2
  go_loopw [3] (fun iv wr => ∃ i : Nat, 1 ≤ i ∧ i ≤ m.length ∧ iv = .int .i64 (i : Int) ∧ Hid (Unlike (m.take i)) ∧ Hid (Below w.heap.size w wr)) (fun iv _ => m.length - (intOf iv).toNat)
  case atStart => exact ⟨1, by omega, by omega, rfl, Lib.hid (fun k => Nat.le_trans (List.length_filter_le _ _) (by rw [List.length_take]; omega)), Lib.hid (Below.refl _ _)⟩
  case round =>
    obtain ⟨i, hi1, hil, rfl, HL, HB⟩ := hrel
    by_cases h1 : i < m.length
    · have i1 : (i : Int) < (m.length : Int) := by omega
      obtain ⟨j, hj⟩ : ∃ j, i = j + 1 := ⟨i - 1, by omega⟩
      have ej : (i : Int) - 1 = (j : Int) := by omega
      obtain ⟨g', o', e1, hg, hx0⟩ := HE.out.at h1
      cases e1
      obtain ⟨g', o', e1, _, hp0⟩ := HE.out.at (show j < m.length by omega)
      cases e1
      have HSP := Lib.hid (split_at h1)
      have HTJ : Hid (m.take i = m.take j ++ [m[j]'(by omega)]) := Lib.hid (by subst hj; exact List.take_succ_eq_append_getElem (by omega))
      have HUJ : Hid (∀ e ∈ m.take j, lt (m[j]'(by omega)).key e.key = false) := Lib.hid (fun e he => by
        obtain ⟨t, ht, h3⟩ := List.mem_iff_getElem.1 he
        rw [List.length_take] at ht
        rw [List.getElem_take] at h3
        rw [← h3]
        exact List.pairwise_iff_getElem.1 HU.out t j (by omega) (by omega) (by omega))
      have HUI : Hid (lt m[i].key (m[j]'(by omega)).key = false) := Lib.hid (List.pairwise_iff_getElem.1 HU.out j i (by omega) h1 (by omega))
      have HTI : Hid (m.take (i + 1) = m.take i ++ [m[i]]) := Lib.hid (List.take_succ_eq_append_getElem h1)
      generalize m[i] = x at hx0 HSP HUI HTI
      generalize m[j]'(by omega) = p at hp0 HTJ HUJ HUI
      have hx := hx0
      have hp := hp0
      clear hx0 hp0
      by_cases hk : p.key = x.key
      · have hd : decide (p.key = x.key) = true := decide_eq_true hk
        have HN : Hid (¬ Unlike m) := Lib.hid (by
          have := HSP.out
          rw [this]
          exact unlike_twice (e := p) (by rw [HTJ.out]; simp) hk)
        go_wp2_with fail
        refine FreeS.region_puts (S := fun _ W => Below w.heap.size w W) (sts := [])
          (tab := [(2, [.int .i64 (i : Int), .int .i64 1], .int .i64 (j : Int), .pure),
            (3, [.slice (some ⟨g, off, none⟩) m.length c, .int .i64 (j : Int)], .pointer (some ⟨g, off + j * 3, none⟩), .pure),
            (5, [.pointer (some ⟨g, off + j * 3, none⟩)], .string p.key, .read),
            (8, [.slice (some ⟨g, off, none⟩) m.length c, .int .i64 (i : Int)], .pointer (some ⟨g, off + i * 3, none⟩), .pure),
            (10, [.pointer (some ⟨g, off + i * 3, none⟩)], .string x.key, .read),
            (11, [.string p.key, .string x.key], .bool true, .pure)])
          (by kernel_rfl) ⟨by kernel_rfl, ⟨FreeS.d_bin _ rfl rfl (fun xo yo w => cmp_sub3 xo yo w ej (by omega) (by omega)),
            FreeS.d_at _ rfl rfl (fun w => at_25o _ _ _ _ _ (by omega) w),
            FreeS.d_load _ rfl rfl (fun w h => load_9 (hp.below h hg).1),
            FreeS.d_at _ rfl rfl (fun w => at_25o _ _ _ _ _ (by omega) w),
            FreeS.d_load _ rfl rfl (fun w h => load_9 (hx.below h hg).1),
            FreeS.d_bin _ rfl rfl (fun xo yo w => cmp_eql9 xo yo w hd),
            trivial⟩,
            by kernel_rfl, by kernel_rfl, by kernel_rfl⟩ (drew_below HB.out) (Free.from_ 10 [.slice (some ⟨g, off, none⟩) m.length c, .int .i64 (i : Int), .int .i64 (j : Int), .pointer (some ⟨g, off + j * 3, none⟩), .pointer (some ⟨g, off + j * 3, none⟩), .string p.key, .slice (some ⟨g, off, none⟩) m.length c, .int .i64 (i : Int), .pointer (some ⟨g, off + i * 3, none⟩), .pointer (some ⟨g, off + i * 3, none⟩), .string x.key, .bool true]) (by kernel_rfl) ?_
        intro w4 h4
        rw [Free.puts_from _ _ _ (Nat.le_of_ble_eq_true rfl)]
        simp only [List.take_succ_cons, List.take_zero, List.drop_succ_cons, List.drop_zero, List.cons_append, List.nil_append, List.length_cons, List.length_nil, Nat.reduceAdd]
        have HB4 := Lib.hid h4
        clear h4 hx hp
        go_wp2
        go_ret
        exact ⟨⟨true, rfl, by simpa using HN.out⟩, HB4.out⟩
      · have hd : decide (p.key = x.key) = false := decide_eq_false hk
        have HN : Hid (Unlike (m.take (i + 1))) := Lib.hid (by
          rw [HTI.out]
          refine unlike_snoc HL.out fun e he hek => ?_
          rw [HTJ.out, List.mem_append, List.mem_singleton] at he
          rcases he with he | rfl
          · have h5 := HUJ.out e he
            rw [hek] at h5
            exact hk (lt_total h5 HUI.out)
          · exact hk hek)
        go_wp2_with fail
        refine FreeS.region_puts (S := fun _ W => Below w.heap.size w W) (sts := [])
          (tab := [(2, [.int .i64 (i : Int), .int .i64 1], .int .i64 (j : Int), .pure),
            (3, [.slice (some ⟨g, off, none⟩) m.length c, .int .i64 (j : Int)], .pointer (some ⟨g, off + j * 3, none⟩), .pure),
            (5, [.pointer (some ⟨g, off + j * 3, none⟩)], .string p.key, .read),
            (8, [.slice (some ⟨g, off, none⟩) m.length c, .int .i64 (i : Int)], .pointer (some ⟨g, off + i * 3, none⟩), .pure),
            (10, [.pointer (some ⟨g, off + i * 3, none⟩)], .string x.key, .read),
            (11, [.string p.key, .string x.key], .bool false, .pure)])
          (by kernel_rfl) ⟨by kernel_rfl, ⟨FreeS.d_bin _ rfl rfl (fun xo yo w => cmp_sub3 xo yo w ej (by omega) (by omega)),
            FreeS.d_at _ rfl rfl (fun w => at_25o _ _ _ _ _ (by omega) w),
            FreeS.d_load _ rfl rfl (fun w h => load_9 (hp.below h hg).1),
            FreeS.d_at _ rfl rfl (fun w => at_25o _ _ _ _ _ (by omega) w),
            FreeS.d_load _ rfl rfl (fun w h => load_9 (hx.below h hg).1),
            FreeS.d_bin _ rfl rfl (fun xo yo w => cmp_eql9 xo yo w hd),
            trivial⟩,
            by kernel_rfl, by kernel_rfl, by kernel_rfl⟩ (drew_below HB.out) (Free.from_ 10 [.slice (some ⟨g, off, none⟩) m.length c, .int .i64 (i : Int), .int .i64 (j : Int), .pointer (some ⟨g, off + j * 3, none⟩), .pointer (some ⟨g, off + j * 3, none⟩), .string p.key, .slice (some ⟨g, off, none⟩) m.length c, .int .i64 (i : Int), .pointer (some ⟨g, off + i * 3, none⟩), .pointer (some ⟨g, off + i * 3, none⟩), .string x.key, .bool false]) (by kernel_rfl) ?_
        intro w4 h4
        rw [Free.puts_from _ _ _ (Nat.le_of_ble_eq_true rfl)]
        simp only [List.take_succ_cons, List.take_zero, List.drop_succ_cons, List.drop_zero, List.cons_append, List.nil_append, List.length_cons, List.length_nil, Nat.reduceAdd]
        have HB4 := Lib.hid h4
        clear h4 hx hp
        go_wp2
        go_roundw
        case rel => exact ⟨i + 1, by omega, by omega, by go_num, HN, HB4⟩
        case measure => simp [intOf]; omega
    · obtain rfl : i = m.length := by omega
      have i1 : ¬ (m.length : Int) < (m.length : Int) := by omega
      go_wp2
      go_ret
      exact ⟨⟨false, rfl, by have := HL.out; rw [List.take_length] at this; simpa using this⟩, HB.out⟩

theorem errno_any {a b : Int} (h : a = b) : Ending.returned (.int .i64 a) = .returned (.int .i64 b) := by rw [h]
set_option maxHeartbeats 1000000 in
theorem check_any (a : Option Addr) (l : List En) (c : Nat) (w : World) (hl : l.length ≤ 1000000) (hE : Ents w a l) (hc : a = none → c = 0) :
    Calls Try.prog 10 #[.slice a l.length c] w fun e w' => e = .returned (.int .i64 (errL l)) ∧ Below w.heap.size w w' := by
  have hh := hasbad_any a l c w hl hE
  by_cases h1 : 1 ≤ l.length
  · have d1 : ¬ ((l.length : Int) < 1) := by omega
    by_cases h2 : l.length ≤ 4096
    · have d2 : ¬ ((4096 : Int) < (l.length : Int)) := by omega
      cases h3 : l.all okE with
      | false =>
        rw [h3] at hh
        rw [err_no (fun h => by have := List.all_eq_true.2 h.2.2.1; rw [h3] at this; cases this)]
        clear hE hc h3 h1 h2
        go_enter Try.func10, Try.ntmps10
        go_wp2_with fail
        refine hh.mono ?_
        rintro e w1 ⟨rfl, b1⟩
        go_wp2
        go_ret
        exact ⟨rfl, b1⟩
      | true =>
        rw [h3] at hh
        have HO := Lib.hid (List.all_eq_true.1 h3)
        have HS := Lib.hid (fun w' (hb : Below w.heap.size w w') => sorted_any a l c w' hl (hE.below hb) hc)
        have HP := Lib.hid (And.intro h1 h2)
        obtain ⟨V, hV⟩ : ∃ V, V = errL l := ⟨_, rfl⟩
        rw [← hV]
        have HV := Lib.hid hV
        clear hE hc h3 h1 h2 hV
        go_enter Try.func10, Try.ntmps10
        go_wp2_with fail
        refine hh.mono ?_
        rintro e w1 ⟨rfl, b1⟩
        have hs := HS.out w1 b1
        have HB1 := Lib.hid b1
        clear b1
        go_wp2_with fail
        refine hs.mono ?_
        rintro e w2 ⟨v, rfl, ho, hn, b2⟩
        have hh3 := ho.2
        rcases hh3 with ⟨_, h3⟩ | ⟨g, cap, cur, rfl, hg, _⟩
        · exfalso
          rw [sort_length] at h3
          have := HP.out.1
          omega
        · have ht := twice_any g 0 (sortL l) cap w2 (by rw [sort_length]; exact hl) (OwnE.ents2 ho) (up_sort l) (by rw [sort_length]; exact HP.out.1)
          have HB2 := Lib.hid (HB1.out.trans (b2.mono HB1.out.size))
          have HSL := Lib.hid (sort_length l)
          clear ho hn b2 hs hh
          go_wp2_with fail
          refine ht.mono ?_
          rintro e w3 ⟨⟨b, rfl, hb⟩, b3⟩
          have HB3 := Lib.hid (HB2.out.trans (b3.mono HB2.out.size))
          have HBB := Lib.hid hb
          clear hb b3
          cases b with
          | true =>
            go_wp2
            go_ret
            refine ⟨errno_any ?_, HB3.out⟩
            rw [HV.out, err_no (fun h => HBB.out.1 (by trivial) (unlike_sort.2 h.2.2.2))]
          | false =>
            go_wp2
            go_ret
            refine ⟨errno_any ?_, HB3.out⟩
            rw [HV.out, err_yes ⟨HP.out.1, HP.out.2, HO.out, Classical.byContradiction fun h => by
              have := HBB.out.2 (fun h2 => h (unlike_sort.1 h2))
              cases this⟩]
    · have d2 : (4096 : Int) < (l.length : Int) := by omega
      rw [err_no (fun h => h2 h.2.1)]
      clear hE hc h1 h2 hh
      go_enter Try.func10, Try.ntmps10
      go_wp2
      go_ret
      exact ⟨rfl, Below.refl _ _⟩
  · have d1 : (l.length : Int) < 1 := by omega
    rw [err_no (fun h => h1 h.1)]
    clear hE hc h1 hh
    go_enter Try.func10, Try.ntmps10
    go_wp2
    go_ret
    exact ⟨rfl, Below.refl _ _⟩
end Go.Proofs.Ythglldnhffkefaa
