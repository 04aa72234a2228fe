/- PlanRelinks's law: it answers true. Condition: the nodes' numbers are of 8 bits. -/
import Derived.Test.YtjlifkhpohfiaaaTj
import Derived.Deep.Cut
namespace Go.Proofs.Ytjlifkhpohfiaaa
open Go.RowKit Go.Op
set_option maxRecDepth 100000

theorem cmp_neq54 (a b c : Int) {xo yo : Operand} (w : World) : (eqGuard .neq 54 xo yo (swv a b c) (swv a b c)).run Try.prog w = .ok () w ∧ (binOp .neq 54 (swv a b c) (swv a b c)).run Try.prog w = .ok (.bool false) w := by
  refine ⟨grd54 _ _ _ _ _ _ _ _, ?_⟩
  unfold swv
  go_simp
theorem relinkL_succ (l : List Spc) (ver : Int) (j : Nat) : relinkL l ver (j + 1) = relinkL l ver j ++ relinkT l ver j := by simp [relinkL, List.range_succ]
theorem relinkI_succ (l : List Spc) (ver : Int) (i k : Nat) : relinkI l ver i (k + 1) = relinkI l ver i k ++ relink1 l ver i k := by simp [relinkI, List.range_succ]
theorem relinkL_pre (l : List Spc) (ver : Int) (j : Nat) : ∀ d, ∃ r, relinkL l ver (j + d) = relinkL l ver j ++ r
  | 0 => ⟨[], by simp⟩
  | d + 1 => by
    obtain ⟨r, h⟩ := relinkL_pre l ver j d
    exact ⟨r ++ relinkT l ver (j + d), by rw [← Nat.add_assoc, relinkL_succ, h, List.append_assoc]⟩
theorem relinkI_pre (l : List Spc) (ver : Int) (i k : Nat) : ∀ d, ∃ r, relinkI l ver i (k + d) = relinkI l ver i k ++ r
  | 0 => ⟨[], by simp⟩
  | d + 1 => by
    obtain ⟨r, h⟩ := relinkI_pre l ver i k d
    exact ⟨r ++ relink1 l ver i (k + d), by rw [← Nat.add_assoc, relinkI_succ, h, List.append_assoc]⟩
/-- What stands at a place of all that has to be changed. -/
theorem relink_at (l : List Spc) (ver : Int) (n i k H : Nat) (hi : i < n) (hk : k < H) (hH : (hts l)[i]? = some H) (hg : goneB l i = false) (x : Sw) (hx : relink1 l ver i k = [x]) : (relinkL l ver n)[(relinkL l ver i ++ relinkI l ver i k).length]? = some x := by
  obtain ⟨r, e1⟩ := relinkL_pre l ver (i + 1) (n - (i + 1))
  obtain ⟨r2, e2⟩ := relinkI_pre l ver i (k + 1) (H - (k + 1))
  rw [show i + 1 + (n - (i + 1)) = n by omega] at e1
  rw [show k + 1 + (H - (k + 1)) = H by omega] at e2
  have e3 : relinkT l ver i = relinkI l ver i H := by unfold relinkT; rw [hg, List.getD_eq_getElem?_getD, hH]; rfl
  have e4 : relinkL l ver n = (relinkL l ver i ++ relinkI l ver i k) ++ (x :: (r2 ++ r)) := by
    rw [e1, relinkL_succ, e3, e2, relinkI_succ, hx]; simp
  rw [e4, List.getElem?_append_right (Nat.le_refl _), Nat.sub_self]
  rfl
theorem relink1_few (l : List Spc) (ver : Int) (i k : Nat) : (relink1 l ver i k).length ≤ 1 := by unfold relink1; split <;> simp
theorem relinkI_few (l : List Spc) (ver : Int) (i : Nat) : ∀ k, (relinkI l ver i k).length ≤ k
  | 0 => Nat.le_refl _
  | k + 1 => by
    rw [relinkI_succ, List.length_append]
    have := relinkI_few l ver i k
    have := relink1_few l ver i k
    omega
theorem relinkL_few (l : List Spc) (ver : Int) : ∀ j, (relinkL l ver j).length ≤ 6 * j
  | 0 => Nat.le_refl _
  | j + 1 => by
    rw [relinkL_succ, List.length_append]
    have := relinkL_few l ver j
    have : (relinkT l ver j).length ≤ 6 := by
      unfold relinkT
      split
      · simp
      · have h := relinkI_few l ver j ((hts l).getD j 0)
        rw [List.getD_eq_getElem?_getD] at h ⊢
        cases e : (hts l)[j]? with
        | none => rw [e] at h; exact Nat.le_trans h (by decide)
        | some H =>
          rw [e] at h
          exact Nat.le_trans h (hts_in (List.mem_of_getElem? e)).2.2
    omega
set_option maxHeartbeats 800000 in
theorem relinksLaw_any (w : World) (a : Option Addr) (l : List Spc) (cap : Nat) (version : Nat) (hS : Specs w a l) (hv : version < 4294967296) :
    Calls Try.prog 4 #[.slice a l.length cap, .int .u32 (version : Int)] w fun e w' => e = .returned (.bool true) ∧ Below w.heap.size w w' := by
  have haw := awake_any
  obtain ⟨n, hn⟩ : ∃ n, n = l.length := ⟨_, rfl⟩
  have HS := Lib.hid hS
  have HN := Lib.hid hn
  have mixed : Try.prog.follows .mixedOrders = true := by kernel_rfl
  rw [← hn]
  clear hS hn
  by_cases h1 : n < 1
  · have h1' : (n : Int) < 1 := by omega
    have d1 : decide ((n : Int) < 1) = true := decide_eq_true h1'
    clear h1
    go_enter Try.func4, Try.ntmps4
    go_wp2_with fail
    refine (haw _).mono ?_
    rintro e w1 ⟨rfl, hb1⟩
    go_wp2_with fail
    refine (haw _).mono ?_
    rintro e w2 ⟨rfl, hb2⟩
    go_wp2_with fail
    go_ret
    exact ⟨rfl, hb1.trans (hb2.mono hb1.size)⟩
  by_cases h2 : 20 < n
  · have h1' : ¬ (n : Int) < 1 := by omega
    have d1 : decide ((n : Int) < 1) = false := decide_eq_false h1'
    have h2' : (20 : Int) < (n : Int) := by omega
    have d2 : decide ((20 : Int) < (n : Int)) = true := decide_eq_true h2'
    clear h1 h2
    go_enter Try.func4, Try.ntmps4
    go_wp2_with fail
    refine (haw _).mono ?_
    rintro e w1 ⟨rfl, hb1⟩
    go_wp2_with fail
    refine (haw _).mono ?_
    rintro e w2 ⟨rfl, hb2⟩
    go_wp2_with fail
    go_ret
    exact ⟨rfl, hb1.trans (hb2.mono hb1.size)⟩
  have h1' : ¬ (n : Int) < 1 := by omega
  have d1 : decide ((n : Int) < 1) = false := decide_eq_false h1'
  have h2' : ¬ (20 : Int) < (n : Int) := by omega
  have d2 : decide ((20 : Int) < (n : Int)) = false := decide_eq_false h2'
  have hn20 : n ≤ 20 := by omega
  have hn1 : 1 ≤ n := by omega
  clear h1 h2
  go_enter Try.func4, Try.ntmps4
  go_wp2_with fail
  refine (haw _).mono ?_
  rintro e w1 ⟨rfl, hb1⟩
  have hr := row_any w1 a cap l (HS.out.later hb1) (by rw [← HN.out]; exact hn1) (by rw [← HN.out]; exact hn20)
  rw [← HN.out] at hr
  have HB1 := Lib.hid hb1
  clear haw hb1
  go_wp2_with fail
  refine hr.mono ?_
  rintro e w2 ⟨va, vc, vl, rfl, q1, q2, q3, q4⟩
  have hg := goesL_any w2 va a vc cap vl l q2 (by rw [← HN.out]; exact q1) (by rw [← HN.out]; exact q3) (HS.out.later (HB1.out.trans (q4.mono HB1.out.size)))
  rw [← HN.out] at hg
  have HB2 := Lib.hid (HB1.out.trans (q4.mono HB1.out.size))
  obtain ⟨gv, ov, rfl, hgv, hrv⟩ : ∃ gv ov, va = some ⟨gv, ov, none⟩ ∧ gv < w2.heap.size ∧ w2.rangeAt gv ov (vrows vl) := by
    rcases q2.row with e | h
    · have h5 := flat_length (fun x : Vw × Vs => x.1.row x.2) 16 (fun _ => rfl) vl
      rw [show vl.flatMap (fun x : Vw × Vs => x.1.row x.2) = [] from e] at h5
      have h6 : vl.length = n := q1.1
      rw [List.length_nil] at h5
      omega
    · exact h
  have HV2 := Lib.hid (⟨q1, q2⟩ : _ ∧ _)
  clear hr q1 q2 q3 q4 hgv hrv
  go_wp2_with fail
  refine hg.mono ?_
  rintro e w3 ⟨ta, rfl, tl, q1, q2, q3⟩
  have HB3 := Lib.hid (HB2.out.trans (q3.mono HB2.out.size))
  have hlt := ltowers_any w3 a cap l (HS.out.later HB3.out) (by rw [← HN.out]; omega) (by rw [← HN.out]; omega)
  rw [← HN.out] at hlt
  have HT3 := Lib.hid (⟨q1, q2, HV2.out.2.later q3⟩ : _ ∧ _ ∧ _)
  clear hg q1 q2 q3
  go_wp2_with fail
  refine hlt.mono ?_
  rintro e w4 ⟨ra, rc, rfl, q1, q2, q3⟩
  have HB4 := Lib.hid (HB3.out.trans (q3.mono HB3.out.size))
  have hrl := rtL_length l n
  have htn : tl.length = n := by rw [HT3.out.2.1.1, HN.out]
  have HT4 : Hid (TRow w4 ta tl ∧ TWIs l tl ∧ RowAt w4 ra (rtRow (rtL l n)) ∧ tl.length = n ∧ (rtL l n).length = n ∧ VRow w4 (some ⟨gv, ov, none⟩) vl) := Lib.hid ⟨HT3.out.1.later q3, HT3.out.2.1, q1, htn, hrl, HT3.out.2.2.later q3⟩
  clear hlt q1 q2 q3 hrl htn HT3
  have hvI : (version : Int) < 4294967296 := by omega
  obtain ⟨at_, hat_⟩ : ∃ t, t = (version : Int) % 1073741825 := ⟨_, rfl⟩
  have hat1 : 0 ≤ at_ := by omega
  have hat2 : at_ ≤ 1073741824 := by omega
  have HAV := Lib.hid hat_.symm
  clear hat_
  have hrk := relink_any w4 ta n tl HT4.out.1 (by rw [HT4.out.2.2.2.1]; exact Nat.le_refl _) (by rw [HT4.out.2.2.2.1]; omega) (by rw [HT4.out.2.2.2.1]; omega) (tw_few HT4.out.2.1) at_
  rw [swaps_relink HT4.out.2.1, HT4.out.2.2.2.1, ← HN.out] at hrk
  obtain ⟨SL, hSL⟩ : ∃ SL, SL = relinkL l at_ n := ⟨_, rfl⟩
  obtain ⟨M, hM⟩ : ∃ M, M = SL.length := ⟨_, rfl⟩
  rw [← hSL, ← hM] at hrk
  have HSL := Lib.hid (⟨hSL, hM⟩ : _ ∧ _)
  clear hSL hM
  go_wp2_with (first | rw [HAV.out] | fail)
  refine hrk.mono ?_
  rintro e w5 ⟨sa, sc, rfl, q1, q2⟩
  have HB5 := Lib.hid (HB4.out.trans (q2.mono HB4.out.size))
  have HO5 : Hid (RowAt w5 sa (swRow SL) ∧ Below w4.heap.size w4 w5) := Lib.hid ⟨by
    obtain ⟨a', c', e, -, h2⟩ := own_row q1
    cases e
    exact h2, q2⟩
  clear hrk q1 q2
  have hlM : M ≤ 200000 := by
    have h1 := relinkL_few l at_ n
    rw [← HSL.out.1, ← HSL.out.2] at h1
    omega
  go_wp2_with fail
  go_loopw [11, 12] (fun nv iv wr => ∃ (i m : Nat), iv = .int .i64 (i : Int) ∧ nv = .int .i64 (m : Int) ∧ i ≤ n ∧ m ≤ 6 * i ∧ Hid (m = (relinkL l at_ i).length ∧ Below w5.heap.size w5 wr)) (fun _ iv _ => n - (intOf iv).toNat)
  case atStart => exact ⟨0, 0, rfl, rfl, Nat.zero_le _, Nat.zero_le _, Lib.hid ⟨rfl, Below.refl _ _⟩⟩
  case round =>
    obtain ⟨i, m, rfl, rfl, hi, hm, HX⟩ := hrel
    obtain ⟨wo, hwo⟩ : ∃ wo, wo = wr := ⟨_, rfl⟩
    subst hwo
    by_cases hlt : i < n
    · have hlt2 : (i : Int) < (n : Int) := by omega
      have hb4 := HO5.out.2.trans (HX.out.2.mono HO5.out.2.size)
      obtain ⟨x, hx⟩ : ∃ x, l[i]? = some x := ⟨_, List.getElem?_eq_getElem (by rw [← HN.out]; exact hlt)⟩
      obtain ⟨H, hH⟩ : ∃ H, (hts l)[i]? = some H := ⟨_, List.getElem?_eq_getElem (by rw [hts_length, ← HN.out]; exact hlt)⟩
      have hH6 : H ≤ 6 := (hts_in (List.mem_of_getElem? hH)).2.2
      obtain ⟨gn, hgn⟩ : ∃ gn, gn = goneB l i := ⟨_, rfl⟩
      have hrt : (rtL l n)[i]? = some (H, gn) := by rw [rtL_get l hlt, rtI, List.getD_eq_getElem?_getD, hH, hgn]; rfl
      obtain ⟨gr, or_, er, hgr, hrr⟩ := RowAt.part (f := rtc) (n := 2) (fun _ => rfl) (by decide) (HT4.out.2.2.1.later hb4) hrt
      have hat : ∀ W, (Instr.indexAt 30 (.slice ra n rc) (.int .i64 (i : Int))).run Try.prog W = .ok (.pointer (some ⟨gr, or_ + i * 2, none⟩)) W := fun W => by rw [er]; exact at_rt gr or_ n rc i hlt W
      obtain ⟨q, hq⟩ := HV2.out.1.2 i x hlt hx
      have hv4 := HT4.out.2.2.2.2.2.later hb4
      obtain ⟨g', o', eg, hgv, hrv⟩ := hv4.at_ hq
      cases eg
      have hvat := hv4.lk _ (List.mem_of_getElem? hq)
      rw [List.getD_eq_getElem?_getD, hH] at hrv hvat
      have hc4 := hrv 4 _ rfl
      have hll : (viewI (hts l) l.length i H x).links.length = H := by simp [viewI]
      have hc4' : wo.cell? ⟨gv, ov + i * 16 + 4, none⟩ = some (.slice q.la H q.lc) := by
        rw [← hll]; exact hc4
      have hlk : RowAt wo q.la (ints ((List.range H).map (linkI (hts l) i))) := hvat.lk
      have HRr : Hid (gr < wo.heap.size ∧ wo.cell? ⟨gr, or_ + i * 2, none⟩ = some (.int .i64 (H : Int)) ∧ wo.cell? ⟨gr, or_ + i * 2 + 1, none⟩ = some (.bool gn)) := Lib.hid ⟨hgr, by have := hrr 0 _ rfl; rwa [Nat.add_zero] at this, hrr 1 _ rfl⟩
      have HVv : Hid (gv < wo.heap.size ∧ wo.cell? ⟨gv, ov + i * 16 + 4, none⟩ = some (.slice q.la H q.lc) ∧ RowAt wo q.la (ints ((List.range H).map (linkI (hts l) i)))) := Lib.hid ⟨hgv, hc4', hlk⟩
      have HRT : Hid (gn = goneB l i ∧ (hts l)[i]? = some H ∧ Below w4.heap.size w4 wo) := Lib.hid ⟨hgn, hH, hb4⟩
      clear hb4 hx hH hgn hrt er hgr hrr hq hv4 hgv hrv hvat hc4 hc4' hll hlk
      go_wp2_with fail
      go_loopw [11, 13] (fun nv kv W => ∃ (k m : Nat), kv = .int .i64 (k : Int) ∧ nv = .int .i64 (m : Int) ∧ k ≤ H ∧ m ≤ 6 * i + k ∧ Hid (m = (relinkL l at_ i ++ relinkI l at_ i k).length ∧ (gn = true → k = 0) ∧ Below wo.heap.size wo W)) (fun _ kv _ => H - (intOf kv).toNat)
      case atStart => exact ⟨0, m, rfl, rfl, Nat.zero_le _, by omega, Lib.hid ⟨by simp [relinkI]; exact HX.out.1, fun _ => rfl, Below.refl _ _⟩⟩
      case round =>
        clear hm
        obtain ⟨k, m, rfl, rfl, hk, hm, HY⟩ := hrel
        have c0 := HY.out.2.2.cell (p := ⟨gr, or_ + i * 2, none⟩) HRr.out.1
        rw [HRr.out.2.1] at c0
        have c1 := HY.out.2.2.cell (p := ⟨gr, or_ + i * 2 + 1, none⟩) HRr.out.1
        rw [HRr.out.2.2] at c1
        have ex : ¬ (k < H ∧ gn = false) → Hid (m = (relinkL l at_ (i + 1)).length ∧ Below w5.heap.size w5 wr) := fun hne => Lib.hid ⟨by
          rw [HY.out.1, relinkL_succ]
          congr 2
          unfold relinkT
          rw [← HRT.out.1, List.getD_eq_getElem?_getD, HRT.out.2.1]
          cases gn with
          | true => rw [HY.out.2.1 rfl]; rfl
          | false =>
            have : k = H := by
              by_cases h : k < H
              · exact absurd ⟨h, rfl⟩ hne
              · omega
            rw [this]; rfl, HX.out.2.trans (HY.out.2.2.mono HX.out.2.size)⟩
        by_cases hkH : k < H
        · have hkH2 : (k : Int) < (H : Int) := by omega
          cases gn with
          | true =>
            have HE := ex (fun h => by cases h.2)
            clear ex HY
            go_wp2_with fail
            first
              | exact ⟨⟨i + 1, m, by simp, rfl, by omega, by omega, HE⟩, by simp only [intOf]; omega⟩
              | (go_roundw
                 case rel => exact ⟨i + 1, m, by simp, rfl, by omega, by omega, HE⟩
                 case measure => simp [intOf]; omega)
          | false =>
            clear ex
            have hb5 := HRT.out.2.2.trans (HY.out.2.2.mono HRT.out.2.2.size)
            have hrf := refLeads_any wr ra rc (rtL l n) (by rw [HT4.out.2.2.2.2.1]; omega) (HT4.out.2.2.1.later hb5) (i : Int) (k : Int)
            rw [HT4.out.2.2.2.2.1] at hrf
            obtain ⟨O, hO⟩ : ∃ O, O = refO (rtL l n) (i : Int) (k : Int) := ⟨_, rfl⟩
            rw [← hO] at hrf
            have hOj : ∀ j, O = some j → j < n := fun j e => by
              rw [hO, refO] at e
              split at e
              · cases e
              · have := firstR_some e
                rw [HT4.out.2.2.2.2.1] at this
                exact this.2
            obtain ⟨LK, hLK⟩ : ∃ LK, LK = linkI (hts l) i k := ⟨_, rfl⟩
            have HSw : Hid (relink1 l at_ i k = if tto LK = handO O then [] else [(cellI i k, LK, tword (handO O) at_)]) := Lib.hid (by unfold relink1; rw [← HN.out, ← hO, ← hLK])
            have hkl : ((List.range H).map (linkI (hts l) i))[k]? = some LK := by rw [hLK]; simp [hkH]
            obtain ⟨gl, ol, el, hgl, hcl⟩ := HVv.out.2.2.at_ hkl
            have hal : ∀ W, (Instr.indexAt 35 (.slice q.la H q.lc) (.int .i64 (k : Int))).run Try.prog W = .ok (.pointer (some ⟨gl, ol + k, none⟩)) W := fun W => by rw [el]; exact at_35 gl ol H q.lc k hkH W
            have HCc : Hid ((∀ W, Below wr.heap.size wr W → W.cell? ⟨gv, ov + i * 16 + 4, none⟩ = some (.slice q.la H q.lc)) ∧ (∀ W, Below wr.heap.size wr W → W.cell? ⟨gl, ol + k, none⟩ = some (.int .i64 LK))) := Lib.hid ⟨fun W hW => by
              rw [hW.cell (p := ⟨gv, ov + i * 16 + 4, none⟩) (Nat.lt_of_lt_of_le HVv.out.1 HY.out.2.2.size), HY.out.2.2.cell (p := ⟨gv, ov + i * 16 + 4, none⟩) HVv.out.1]; exact HVv.out.2.1, fun W hW => by
              rw [hW.cell (p := ⟨gl, ol + k, none⟩) (Nat.lt_of_lt_of_le hgl HY.out.2.2.size), HY.out.2.2.cell (p := ⟨gl, ol + k, none⟩) hgl]; exact hcl⟩
            have d4 := HCc.out.1 wr (Below.refl _ _)
            have dl := HCc.out.2 wr (Below.refl _ _)
            have hav := fun W => at_25 gv ov n vc i hlt W
            have htt := fun w => tto_any LK w
            have HK2 : Hid (i ≤ 1000000 ∧ k ≤ 1000000 ∧ i < n) := Lib.hid ⟨by omega, by omega, hlt⟩
            have HRx : Hid (relink1 l at_ i k = [(cellI i k, LK, tword (handO O) at_)] → SL[m]? = some (cellI i k, LK, tword (handO O) at_)) := Lib.hid fun e => by
              rw [HSL.out.1, HY.out.1]
              exact relink_at l at_ n i k H hlt hkH HRT.out.2.1 HRT.out.1.symm _ e
            have HSs : Hid (RowAt wr sa (swRow SL)) := Lib.hid (HO5.out.1.later (HX.out.2.trans (HY.out.2.2.mono HX.out.2.size)))
            clear hb5 hO hLK hkl el hgl hcl
            go_wp2_with fail
            refine hrf.mono ?_
            rintro e w6 ⟨rfl, rfl⟩
            clear hrf
            cases O with
            | none =>
              have ef : ofO none = -1 := rfl
              have eh : handO none = 0 := rfl
              rw [ef]
              rw [eh] at HSw HRx
              clear ef eh hOj
              go_wp2_with fail
              refine (htt _).mono ?_
              rintro e w7 ⟨rfl, rfl⟩
              clear htt
              by_cases hsw : tto LK = 0
              · have HZ : Hid (m = (relinkL l at_ i ++ relinkI l at_ i (k + 1)).length ∧ (false = true → k + 1 = 0) ∧ Below wo.heap.size wo wr) := Lib.hid ⟨by rw [relinkI_succ, HSw.out, if_pos hsw, List.append_nil]; exact HY.out.1, fun h => (by cases h), HY.out.2.2⟩
                rw [hsw]
                clear HSw HRx HY hsw
                go_wp2_with fail
                first
                  | exact ⟨⟨k + 1, m, by simp, rfl, by omega, by omega, HZ⟩, by simp only [intOf]; omega⟩
                  | (go_roundw
                     case rel => exact ⟨k + 1, m, by simp, rfl, by omega, by omega, HZ⟩
                     case measure => simp [intOf]; omega)
              · have HZ : Hid (m + 1 = (relinkL l at_ i ++ relinkI l at_ i (k + 1)).length ∧ (false = true → k + 1 = 0) ∧ Below wo.heap.size wo wr) := Lib.hid ⟨by
                  rw [relinkI_succ, HSw.out, if_neg hsw, ← List.append_assoc, List.length_append, ← HY.out.1]; rfl, fun h => (by cases h), HY.out.2.2⟩
                have hsm := HRx.out (by rw [HSw.out, if_neg hsw])
                have hmM : m < M := by rw [HSL.out.2]; exact (List.getElem?_eq_some_iff.1 hsm).1
                have HM2 : Hid (decide ((M : Int) ≤ (m : Int)) = false ∧ m < M) := Lib.hid ⟨decide_eq_false (by omega), hmM⟩
                obtain ⟨gs, os, esa, hgs, hrs⟩ := RowAt.part (f := swc) (n := 3) (fun _ => rfl) (by decide) HSs.out hsm
                have HC : Hid ((∀ W, Below wr.heap.size wr W → (Instr.loadAt 54 (.pointer (some ⟨gs, os + m * 3, none⟩))).run Try.prog W = .ok (swv (cellI i k) LK (tword 0 at_)) W) ∧ (∀ W, Below wr.heap.size wr W → W.cell? ⟨gv, ov + i * 16 + 4, none⟩ = some (.slice q.la H q.lc)) ∧ (∀ W, (Instr.indexAt 35 (.slice q.la H q.lc) (.int .i64 (k : Int))).run Try.prog W = .ok (.pointer (some ⟨gl, ol + k, none⟩)) W) ∧ (∀ W, Below wr.heap.size wr W → W.cell? ⟨gl, ol + k, none⟩ = some (.int .i64 LK))) := Lib.hid ⟨fun W hW => load_mid (rangeAt_same hrs (hW.block gs hgs)) sh54, HCc.out.1, hal, HCc.out.2⟩
                generalize htq : tto LK = tq at hsw ⊢
                clear htq HSw HRx HY hsm hmM hgs hrs HSs hat c0 c1 d4 dl hav hal
                subst esa
                have d6 : decide (tq = 0) = false := decide_eq_false hsw
                have d7 : (tq == 0) = false := by simpa using hsw
                clear hsw
                go_wp2_with fail
                clear d6 d7
                refine FreeV.region_puts (S := fun _ _ W => Below wr.heap.size wr W) (effs := [])
                  (tab := [⟨2, fun _ => [.slice (some ⟨gs, os, none⟩) M sc], fun _ => .int .i64 (M : Int), .pure⟩,
                    ⟨3, fun _ => [.int .i64 (m : Int), .int .i64 (M : Int)], fun _ => .bool false, .pure⟩,
                    ⟨7, fun _ => [.slice (some ⟨gs, os, none⟩) M sc, .int .i64 (m : Int)], fun _ => .pointer (some ⟨gs, os + m * 3, none⟩), .pure⟩,
                    ⟨8, fun _ => [.pointer (some ⟨gs, os + m * 3, none⟩)], fun _ => (swv (cellI i k) LK (tword 0 at_)), .read⟩,
                    ⟨11, fun _ => [.func (.func 19) #[] #[], .int .i64 (i : Int), .int .i64 (k : Int)], fun _ => .int .i64 (cellI i k), .ask⟩,
                    ⟨14, fun _ => [.slice (some ⟨gv, ov, none⟩) n vc, .int .i64 (i : Int)], fun _ => .pointer (some ⟨gv, ov + i * 16, none⟩), .pure⟩,
                    ⟨16, fun _ => [.pointer (some ⟨gv, ov + i * 16 + 4, none⟩)], fun _ => .slice q.la H q.lc, .read⟩,
                    ⟨18, fun _ => [.slice q.la H q.lc, .int .i64 (k : Int)], fun _ => .pointer (some ⟨gl, ol + k, none⟩), .pure⟩,
                    ⟨19, fun _ => [.pointer (some ⟨gl, ol + k, none⟩)], fun _ => .int .i64 LK, .read⟩,
                    ⟨22, fun _ => [.func (.func 16) #[] #[], .int .i64 0, .int .i64 at_], fun _ => .int .i64 (tword 0 at_), .ask⟩,
                    ⟨23, fun _ => [.int .i64 (cellI i k), .int .i64 LK, .int .i64 (tword 0 at_)], fun _ => (swv (cellI i k) LK (tword 0 at_)), .read⟩,
                    ⟨24, fun _ => [(swv (cellI i k) LK (tword 0 at_)), (swv (cellI i k) LK (tword 0 at_))], fun _ => .bool false, .pure⟩])
                  (vs := [([], fun _ => .int .i64 (m : Int)), ([], fun _ => .slice (some ⟨gs, os, none⟩) M sc), ([], fun _ => .int .i64 (M : Int)), ([], fun _ => .bool false), ([], fun _ => .bool false), ([], fun _ => .slice (some ⟨gs, os, none⟩) M sc), ([], fun _ => .int .i64 (m : Int)), ([], fun _ => .pointer (some ⟨gs, os + m * 3, none⟩)), ([], fun _ => (swv (cellI i k) LK (tword 0 at_))), ([], fun _ => .int .i64 (i : Int)), ([], fun _ => .int .i64 (k : Int)), ([], fun _ => .int .i64 (cellI i k)), ([], fun _ => .slice (some ⟨gv, ov, none⟩) n vc), ([], fun _ => .int .i64 (i : Int)), ([], fun _ => .pointer (some ⟨gv, ov + i * 16, none⟩)), ([], fun _ => .pointer (some ⟨gv, ov + i * 16 + 4, none⟩)), ([], fun _ => .slice q.la H q.lc), ([], fun _ => .int .i64 (k : Int)), ([], fun _ => .pointer (some ⟨gl, ol + k, none⟩)), ([], fun _ => .int .i64 LK), ([], fun _ => .int .i64 0), ([], fun _ => .int .i64 at_), ([], fun _ => .int .i64 (tword 0 at_)), ([], fun _ => (swv (cellI i k) LK (tword 0 at_))), ([], fun _ => .bool false), ([], fun _ => .bool false)])
                  (by kernel_rfl) ⟨by kernel_rfl, ⟨FreeV.d_len _ rfl rfl (fun _ => len_39 _ M _),
                    FreeV.d_bin _ rfl rfl (fun _ xo yo W => cmp_geq3 _ _ _ HM2.out.1),
                    FreeV.d_at _ rfl rfl (fun _ W => at_39 gs os M sc m HM2.out.2 W),
                    FreeV.d_load _ rfl rfl (fun β bs W hS hd => HC.out.1 W hS),
                    FreeV.d_ask2 _ rfl rfl enter_19 (fun β bs W hS hd => (cell_any i k HK2.out.1 HK2.out.2.1 W).mono fun e w' h => ⟨h.1, h.2 ▸ hS⟩),
                    FreeV.d_at _ rfl rfl (fun _ W => at_25 gv ov n vc i HK2.out.2.2 W),
                    FreeV.d_load _ rfl rfl (fun β bs W hS hd => load_35 (HC.out.2.1 W hS)),
                    FreeV.d_at _ rfl rfl (fun _ W => HC.out.2.2.1 W),
                    FreeV.d_load _ rfl rfl (fun β bs W hS hd => load_3 (HC.out.2.2.2 W hS)),
                    FreeV.d_ask2 _ rfl rfl enter_16 (fun β bs W hS hd => (tword_any _ _ W).mono fun e w' h => ⟨h.1, h.2 ▸ hS⟩),
                    d_build3 rfl rfl (fun β bs W hS hd => build_54 _ _ _ W),
                    FreeV.d_bin _ rfl rfl (fun _ xo yo W => cmp_neq54 _ _ _ W),
                    trivial⟩,
                    fun β => by kernel_rfl, fun β => by kernel_rfl, by kernel_rfl, fun β => by kernel_rfl, by kernel_rfl⟩ (Below.refl _ _).drew (fun β => Free.from_ 89 [.int .i64 (m : Int), .slice (some ⟨gs, os, none⟩) M sc, .int .i64 (M : Int), .bool false, .bool false, .slice (some ⟨gs, os, none⟩) M sc, .int .i64 (m : Int), .pointer (some ⟨gs, os + m * 3, none⟩), (swv (cellI i k) LK (tword 0 at_)), .int .i64 (i : Int), .int .i64 (k : Int), .int .i64 (cellI i k), .slice (some ⟨gv, ov, none⟩) n vc, .int .i64 (i : Int), .pointer (some ⟨gv, ov + i * 16, none⟩), .pointer (some ⟨gv, ov + i * 16 + 4, none⟩), .slice q.la H q.lc, .int .i64 (k : Int), .pointer (some ⟨gl, ol + k, none⟩), .int .i64 LK, .int .i64 0, .int .i64 at_, .int .i64 (tword 0 at_), (swv (cellI i k) LK (tword 0 at_)), .bool false, .bool false]) (fun β => by kernel_rfl) ?_
                intro β w4' h4
                rw [Free.puts_from _ _ _ (Nat.le_of_ble_eq_true rfl)]
                simp only [List.take_succ_cons, List.take_zero, List.drop_succ_cons, List.drop_zero, List.cons_append, List.nil_append, List.length_cons, List.length_nil, Nat.reduceAdd]
                have HZ2 : Hid (m + 1 = (relinkL l at_ i ++ relinkI l at_ i (k + 1)).length ∧ (false = true → k + 1 = 0) ∧ Below wo.heap.size wo w4') := Lib.hid ⟨HZ.out.1, HZ.out.2.1, HZ.out.2.2.trans (h4.mono HZ.out.2.2.size)⟩
                clear h4 HZ HC HM2
                go_wp2_with fail
                first
                  | exact ⟨⟨k + 1, m + 1, by simp, by simp, by omega, by omega, HZ2⟩, by simp only [intOf]; omega⟩
                  | (go_roundw
                     case rel => exact ⟨k + 1, m + 1, by simp, by simp, by omega, by omega, HZ2⟩
                     case measure => simp [intOf]; omega)
            | some j =>
              have hj := hOj j rfl
              have ef : ofO (some j) = (j : Int) := rfl
              have eh : handO (some j) = handI j := rfl
              have hj0 : (0 : Int) ≤ (j : Int) := by omega
              have hlh := fun w => lhandle_any j w
              rw [ef]
              rw [eh] at HSw HRx
              clear ef eh hOj hj
              generalize handI j = hj1 at hlh HSw HRx
              go_wp2_with fail
              refine (hlh _).mono ?_
              rintro e w6 ⟨rfl, rfl⟩
              clear hlh
              go_wp2_with fail
              refine (htt _).mono ?_
              rintro e w7 ⟨rfl, rfl⟩
              clear htt
              by_cases hsw : tto LK = hj1
              · have HZ : Hid (m = (relinkL l at_ i ++ relinkI l at_ i (k + 1)).length ∧ (false = true → k + 1 = 0) ∧ Below wo.heap.size wo wr) := Lib.hid ⟨by rw [relinkI_succ, HSw.out, if_pos hsw, List.append_nil]; exact HY.out.1, fun h => (by cases h), HY.out.2.2⟩
                rw [hsw]
                clear HSw HRx HY hsw
                go_wp2_with fail
                first
                  | exact ⟨⟨k + 1, m, by simp, rfl, by omega, by omega, HZ⟩, by simp only [intOf]; omega⟩
                  | (go_roundw
                     case rel => exact ⟨k + 1, m, by simp, rfl, by omega, by omega, HZ⟩
                     case measure => simp [intOf]; omega)
              · have HZ : Hid (m + 1 = (relinkL l at_ i ++ relinkI l at_ i (k + 1)).length ∧ (false = true → k + 1 = 0) ∧ Below wo.heap.size wo wr) := Lib.hid ⟨by
                  rw [relinkI_succ, HSw.out, if_neg hsw, ← List.append_assoc, List.length_append, ← HY.out.1]; rfl, fun h => (by cases h), HY.out.2.2⟩
                have hsm := HRx.out (by rw [HSw.out, if_neg hsw])
                have hmM : m < M := by rw [HSL.out.2]; exact (List.getElem?_eq_some_iff.1 hsm).1
                have HM2 : Hid (decide ((M : Int) ≤ (m : Int)) = false ∧ m < M) := Lib.hid ⟨decide_eq_false (by omega), hmM⟩
                obtain ⟨gs, os, esa, hgs, hrs⟩ := RowAt.part (f := swc) (n := 3) (fun _ => rfl) (by decide) HSs.out hsm
                have HC : Hid ((∀ W, Below wr.heap.size wr W → (Instr.loadAt 54 (.pointer (some ⟨gs, os + m * 3, none⟩))).run Try.prog W = .ok (swv (cellI i k) LK (tword hj1 at_)) W) ∧ (∀ W, Below wr.heap.size wr W → W.cell? ⟨gv, ov + i * 16 + 4, none⟩ = some (.slice q.la H q.lc)) ∧ (∀ W, (Instr.indexAt 35 (.slice q.la H q.lc) (.int .i64 (k : Int))).run Try.prog W = .ok (.pointer (some ⟨gl, ol + k, none⟩)) W) ∧ (∀ W, Below wr.heap.size wr W → W.cell? ⟨gl, ol + k, none⟩ = some (.int .i64 LK))) := Lib.hid ⟨fun W hW => load_mid (rangeAt_same hrs (hW.block gs hgs)) sh54, HCc.out.1, hal, HCc.out.2⟩
                generalize htq : tto LK = tq at hsw ⊢
                clear htq HSw HRx HY hsm hmM hgs hrs HSs hat c0 c1 d4 dl hav hal
                subst esa
                have d6 : decide (tq = hj1) = false := decide_eq_false hsw
                have d7 : (tq == hj1) = false := by simpa using hsw
                clear hsw
                go_wp2_with fail
                clear d6 d7
                refine FreeV.region_puts (S := fun _ _ W => Below wr.heap.size wr W) (effs := [])
                  (tab := [⟨2, fun _ => [.slice (some ⟨gs, os, none⟩) M sc], fun _ => .int .i64 (M : Int), .pure⟩,
                    ⟨3, fun _ => [.int .i64 (m : Int), .int .i64 (M : Int)], fun _ => .bool false, .pure⟩,
                    ⟨7, fun _ => [.slice (some ⟨gs, os, none⟩) M sc, .int .i64 (m : Int)], fun _ => .pointer (some ⟨gs, os + m * 3, none⟩), .pure⟩,
                    ⟨8, fun _ => [.pointer (some ⟨gs, os + m * 3, none⟩)], fun _ => (swv (cellI i k) LK (tword hj1 at_)), .read⟩,
                    ⟨11, fun _ => [.func (.func 19) #[] #[], .int .i64 (i : Int), .int .i64 (k : Int)], fun _ => .int .i64 (cellI i k), .ask⟩,
                    ⟨14, fun _ => [.slice (some ⟨gv, ov, none⟩) n vc, .int .i64 (i : Int)], fun _ => .pointer (some ⟨gv, ov + i * 16, none⟩), .pure⟩,
                    ⟨16, fun _ => [.pointer (some ⟨gv, ov + i * 16 + 4, none⟩)], fun _ => .slice q.la H q.lc, .read⟩,
                    ⟨18, fun _ => [.slice q.la H q.lc, .int .i64 (k : Int)], fun _ => .pointer (some ⟨gl, ol + k, none⟩), .pure⟩,
                    ⟨19, fun _ => [.pointer (some ⟨gl, ol + k, none⟩)], fun _ => .int .i64 LK, .read⟩,
                    ⟨22, fun _ => [.func (.func 16) #[] #[], .int .i64 hj1, .int .i64 at_], fun _ => .int .i64 (tword hj1 at_), .ask⟩,
                    ⟨23, fun _ => [.int .i64 (cellI i k), .int .i64 LK, .int .i64 (tword hj1 at_)], fun _ => (swv (cellI i k) LK (tword hj1 at_)), .read⟩,
                    ⟨24, fun _ => [(swv (cellI i k) LK (tword hj1 at_)), (swv (cellI i k) LK (tword hj1 at_))], fun _ => .bool false, .pure⟩])
                  (vs := [([], fun _ => .int .i64 (m : Int)), ([], fun _ => .slice (some ⟨gs, os, none⟩) M sc), ([], fun _ => .int .i64 (M : Int)), ([], fun _ => .bool false), ([], fun _ => .bool false), ([], fun _ => .slice (some ⟨gs, os, none⟩) M sc), ([], fun _ => .int .i64 (m : Int)), ([], fun _ => .pointer (some ⟨gs, os + m * 3, none⟩)), ([], fun _ => (swv (cellI i k) LK (tword hj1 at_))), ([], fun _ => .int .i64 (i : Int)), ([], fun _ => .int .i64 (k : Int)), ([], fun _ => .int .i64 (cellI i k)), ([], fun _ => .slice (some ⟨gv, ov, none⟩) n vc), ([], fun _ => .int .i64 (i : Int)), ([], fun _ => .pointer (some ⟨gv, ov + i * 16, none⟩)), ([], fun _ => .pointer (some ⟨gv, ov + i * 16 + 4, none⟩)), ([], fun _ => .slice q.la H q.lc), ([], fun _ => .int .i64 (k : Int)), ([], fun _ => .pointer (some ⟨gl, ol + k, none⟩)), ([], fun _ => .int .i64 LK), ([], fun _ => .int .i64 hj1), ([], fun _ => .int .i64 at_), ([], fun _ => .int .i64 (tword hj1 at_)), ([], fun _ => (swv (cellI i k) LK (tword hj1 at_))), ([], fun _ => .bool false), ([], fun _ => .bool false)])
                  (by kernel_rfl) ⟨by kernel_rfl, ⟨FreeV.d_len _ rfl rfl (fun _ => len_39 _ M _),
                    FreeV.d_bin _ rfl rfl (fun _ xo yo W => cmp_geq3 _ _ _ HM2.out.1),
                    FreeV.d_at _ rfl rfl (fun _ W => at_39 gs os M sc m HM2.out.2 W),
                    FreeV.d_load _ rfl rfl (fun β bs W hS hd => HC.out.1 W hS),
                    FreeV.d_ask2 _ rfl rfl enter_19 (fun β bs W hS hd => (cell_any i k HK2.out.1 HK2.out.2.1 W).mono fun e w' h => ⟨h.1, h.2 ▸ hS⟩),
                    FreeV.d_at _ rfl rfl (fun _ W => at_25 gv ov n vc i HK2.out.2.2 W),
                    FreeV.d_load _ rfl rfl (fun β bs W hS hd => load_35 (HC.out.2.1 W hS)),
                    FreeV.d_at _ rfl rfl (fun _ W => HC.out.2.2.1 W),
                    FreeV.d_load _ rfl rfl (fun β bs W hS hd => load_3 (HC.out.2.2.2 W hS)),
                    FreeV.d_ask2 _ rfl rfl enter_16 (fun β bs W hS hd => (tword_any _ _ W).mono fun e w' h => ⟨h.1, h.2 ▸ hS⟩),
                    d_build3 rfl rfl (fun β bs W hS hd => build_54 _ _ _ W),
                    FreeV.d_bin _ rfl rfl (fun _ xo yo W => cmp_neq54 _ _ _ W),
                    trivial⟩,
                    fun β => by kernel_rfl, fun β => by kernel_rfl, by kernel_rfl, fun β => by kernel_rfl, by kernel_rfl⟩ (Below.refl _ _).drew (fun β => Free.from_ 89 [.int .i64 (m : Int), .slice (some ⟨gs, os, none⟩) M sc, .int .i64 (M : Int), .bool false, .bool false, .slice (some ⟨gs, os, none⟩) M sc, .int .i64 (m : Int), .pointer (some ⟨gs, os + m * 3, none⟩), (swv (cellI i k) LK (tword hj1 at_)), .int .i64 (i : Int), .int .i64 (k : Int), .int .i64 (cellI i k), .slice (some ⟨gv, ov, none⟩) n vc, .int .i64 (i : Int), .pointer (some ⟨gv, ov + i * 16, none⟩), .pointer (some ⟨gv, ov + i * 16 + 4, none⟩), .slice q.la H q.lc, .int .i64 (k : Int), .pointer (some ⟨gl, ol + k, none⟩), .int .i64 LK, .int .i64 hj1, .int .i64 at_, .int .i64 (tword hj1 at_), (swv (cellI i k) LK (tword hj1 at_)), .bool false, .bool false]) (fun β => by kernel_rfl) ?_
                intro β w4' h4
                rw [Free.puts_from _ _ _ (Nat.le_of_ble_eq_true rfl)]
                simp only [List.take_succ_cons, List.take_zero, List.drop_succ_cons, List.drop_zero, List.cons_append, List.nil_append, List.length_cons, List.length_nil, Nat.reduceAdd]
                have HZ2 : Hid (m + 1 = (relinkL l at_ i ++ relinkI l at_ i (k + 1)).length ∧ (false = true → k + 1 = 0) ∧ Below wo.heap.size wo w4') := Lib.hid ⟨HZ.out.1, HZ.out.2.1, HZ.out.2.2.trans (h4.mono HZ.out.2.2.size)⟩
                clear h4 HZ HC HM2
                go_wp2_with fail
                first
                  | exact ⟨⟨k + 1, m + 1, by simp, by simp, by omega, by omega, HZ2⟩, by simp only [intOf]; omega⟩
                  | (go_roundw
                     case rel => exact ⟨k + 1, m + 1, by simp, by simp, by omega, by omega, HZ2⟩
                     case measure => simp [intOf]; omega)
        · have hkH2 : ¬ (k : Int) < (H : Int) := by omega
          have HE := ex (fun h => hkH h.1)
          clear ex HY
          go_wp2_with fail
          first
            | exact ⟨⟨i + 1, m, by simp, rfl, by omega, by omega, HE⟩, by simp only [intOf]; omega⟩
            | (go_roundw
               case rel => exact ⟨i + 1, m, by simp, rfl, by omega, by omega, HE⟩
               case measure => simp [intOf]; omega)
    · have hlt2 : ¬ (i : Int) < (n : Int) := by omega
      obtain rfl : i = n := by omega
      have hmM : m = M := by rw [HSL.out.2, HSL.out.1]; exact HX.out.1
      have HE := Lib.hid (HB5.out.trans (HX.out.2.mono HB5.out.size))
      clear HX
      rw [hmM]
      go_wp2_with fail
      go_ret
      exact ⟨rfl, HE.out⟩
end Go.Proofs.Ytjlifkhpohfiaaa
