/- PlanLeads's law: it answers true. Condition: the nodes' numbers are of 8 bits. -/
import Derived.Test.YtjlifkhpohfiaaaTj
namespace Go.Proofs.Ytjlifkhpohfiaaa
open Go.RowKit Go.Op
set_option maxRecDepth 100000

set_option maxHeartbeats 800000 in
theorem leadsLaw_any (w : World) (a : Option Addr) (l : List Spc) (cap : Nat) (i level height : Int) (version : Nat) (hS : Specs w a l) (hv : version < 4294967296) :
    Calls Try.prog 3 #[.slice a l.length cap, .int .i64 i, .int .i64 level, .int .i64 height, .int .u32 (version : Int)] w fun e w' => e = .returned (.bool true) ∧ Below w.heap.size w w' := by
  have haw := awake_any
  obtain ⟨n, hn⟩ : ∃ n, n = l.length := ⟨_, rfl⟩
  have HS := Lib.hid hS
  have HN := Lib.hid hn
  have mixed : Try.prog.follows .mixedOrders = true := by kernel_rfl
  rw [← hn]
  clear hS hn
  by_cases h1 : n < 1
  · have h1' : (n : Int) < 1 := by omega
    have d1 : decide ((n : Int) < 1) = true := decide_eq_true h1'
    clear h1
    go_enter Try.func3, Try.ntmps3
    go_wp2_with fail
    refine (haw _).mono ?_
    rintro e w1 ⟨rfl, hb1⟩
    go_wp2_with fail
    refine (haw _).mono ?_
    rintro e w2 ⟨rfl, hb2⟩
    go_wp2_with fail
    go_ret
    exact ⟨rfl, hb1.trans (hb2.mono hb1.size)⟩
  by_cases h2 : 20 < n
  · have h1' : ¬ (n : Int) < 1 := by omega
    have d1 : decide ((n : Int) < 1) = false := decide_eq_false h1'
    have h2' : (20 : Int) < (n : Int) := by omega
    have d2 : decide ((20 : Int) < (n : Int)) = true := decide_eq_true h2'
    clear h1 h2
    go_enter Try.func3, Try.ntmps3
    go_wp2_with fail
    refine (haw _).mono ?_
    rintro e w1 ⟨rfl, hb1⟩
    go_wp2_with fail
    refine (haw _).mono ?_
    rintro e w2 ⟨rfl, hb2⟩
    go_wp2_with fail
    go_ret
    exact ⟨rfl, hb1.trans (hb2.mono hb1.size)⟩
  have h1' : ¬ (n : Int) < 1 := by omega
  have d1 : decide ((n : Int) < 1) = false := decide_eq_false h1'
  have h2' : ¬ (20 : Int) < (n : Int) := by omega
  have d2 : decide ((20 : Int) < (n : Int)) = false := decide_eq_false h2'
  have hn20 : n ≤ 20 := by omega
  have hn1 : 1 ≤ n := by omega
  clear h1 h2
  go_enter Try.func3, Try.ntmps3
  go_wp2_with fail
  refine (haw _).mono ?_
  rintro e w1 ⟨rfl, hb1⟩
  have hr := row_any w1 a cap l (HS.out.later hb1) (by rw [← HN.out]; exact hn1) (by rw [← HN.out]; exact hn20)
  rw [← HN.out] at hr
  have HB1 := Lib.hid hb1
  clear haw hb1
  go_wp2_with fail
  refine hr.mono ?_
  rintro e w2 ⟨va, vc, vl, rfl, q1, q2, q3, q4⟩
  have hg := goesL_any w2 va a vc cap vl l q2 (by rw [← HN.out]; exact q1) (by rw [← HN.out]; exact q3) (HS.out.later (HB1.out.trans (q4.mono HB1.out.size)))
  rw [← HN.out] at hg
  have HB2 := Lib.hid (HB1.out.trans (q4.mono HB1.out.size))
  clear hr q1 q2 q3 q4
  go_wp2_with fail
  refine hg.mono ?_
  rintro e w3 ⟨ta, rfl, tl, q1, q2, q3⟩
  have HB3 := Lib.hid (HB2.out.trans (q3.mono HB2.out.size))
  have hlt := ltowers_any w3 a cap l (HS.out.later HB3.out) (by rw [← HN.out]; omega) (by rw [← HN.out]; omega)
  rw [← HN.out] at hlt
  have HT3 := Lib.hid (⟨q1, q2⟩ : _ ∧ _)
  clear hg q1 q2 q3
  go_wp2_with fail
  refine hlt.mono ?_
  rintro e w4 ⟨ra, rc, rfl, q1, q2, q3⟩
  have HB4 := Lib.hid (HB3.out.trans (q3.mono HB3.out.size))
  have hrl := rtL_length l n
  have hrf := refLeads_any w4 ra rc (rtL l n) (by rw [hrl]; omega) q1 i level
  rw [hrl] at hrf
  obtain ⟨tw, htw⟩ : ∃ t, t = tl.length := ⟨_, rfl⟩
  have htn : tl.length = n := by rw [HT3.out.2.1, HN.out]
  have hls := leadsT_any w4 ta n tl (HT3.out.1.later q3) (by rw [htn]; exact Nat.le_refl _) (by rw [htn]; omega) i level
  have hlr := leads_ref HT3.out.2 i level
  rw [htn] at hls
  rw [← HN.out] at hlr
  have HT4 : Hid (TRow w4 ta tl ∧ TWIs l tl ∧ RowAt w4 ra (rtRow (rtL l n)) ∧ tl.length = n ∧ (rtL l n).length = n) := Lib.hid ⟨HT3.out.1.later q3, HT3.out.2, q1, htn, hrl⟩
  clear hlt q1 q2 q3 hrl htn htw HT3
  obtain ⟨O, hO⟩ : ∃ O, O = refO (rtL l n) i level := ⟨_, rfl⟩
  rw [← hO] at hrf hlr
  rw [hlr] at hls
  have hOj : ∀ j, O = some j → j < n := fun j e => by
    rw [hO, refO] at e
    split at e
    · cases e
    · have := firstR_some e
      rw [HT4.out.2.2.2.2] at this
      exact this.2
  clear hO hlr
  go_wp2_with fail
  refine hrf.mono ?_
  rintro e w5 ⟨rfl, rfl⟩
  clear hrf
  cases O with
  | none =>
    have ef : ofO none = -1 := rfl
    have eh : handO none = 0 := rfl
    rw [ef]
    rw [eh] at hls
    clear ef eh hOj
    go_wp2_with fail
    refine hls.mono ?_
    rintro e w5 ⟨rfl, hb5⟩
    have HB5 := Lib.hid (HB4.out.trans (hb5.mono HB4.out.size))
    have HT5 : Hid (TRow w5 ta tl ∧ RowAt w5 ra (rtRow (rtL l n)) ∧ Below w4.heap.size w4 w5) := Lib.hid ⟨HT4.out.1.later hb5, HT4.out.2.2.1.later hb5, hb5⟩
    clear hls hb5
    have hvI : (version : Int) < 4294967296 := by omega
    obtain ⟨at_, hat_⟩ : ∃ t, t = (version : Int) % 1073741825 := ⟨_, rfl⟩
    have hat1 : 0 ≤ at_ := by omega
    have hat2 : at_ ≤ 1073741824 := by omega
    have HAV := Lib.hid hat_.symm
    clear hat_
    have hlk := links_any w5 ta n tl HT5.out.1 (by rw [HT4.out.2.2.2.1]; exact Nat.le_refl _) (by rw [HT4.out.2.2.2.1]; omega) i height at_
    rw [HT4.out.2.2.2.1] at hlk
    go_wp2_with (first | rw [HAV.out] | fail)
    refine hlk.mono ?_
    rintro e w6 ⟨hb6, hQ⟩
    have HB6 := Lib.hid (HB5.out.trans (hb6.mono HB5.out.size))
    have HT6 : Hid (RowAt w6 ra (rtRow (rtL l n)) ∧ 0 < 1) := Lib.hid ⟨HT5.out.2.1.later hb6, by decide⟩
    clear hlk hb6 HT5
    rcases hQ with ⟨hor, rfl⟩ | ⟨N, rfl, hN1, hN24, gk, rfl, ho6⟩
    · rcases hor with hl1 | hl2
      · have d3 : decide (height < 1) = true := decide_eq_true hl1
        go_wp2_with fail
        go_ret
        exact ⟨rfl, HB6.out⟩
      · have hl3 : ¬ height < 1 := by omega
        have d3 : decide (height < 1) = false := decide_eq_false hl3
        have d4 : decide (24 < height) = true := decide_eq_true hl2
        go_wp2_with fail
        go_ret
        exact ⟨rfl, HB6.out⟩
    · have hl3 : ¬ (N : Int) < 1 := by omega
      have d3 : decide ((N : Int) < 1) = false := decide_eq_false hl3
      have hl4 : ¬ (24 : Int) < (N : Int) := by omega
      have d4 : decide ((24 : Int) < (N : Int)) = false := decide_eq_false hl4
      have HO6 := Lib.hid (⟨(World.ownsRow.lt ho6 gk rfl).2, ho6⟩ : _ ∧ _)
      have hN24' : (N : Int) ≤ 24 := by omega
      clear ho6
      go_wp2_with fail
      clear d3 d4 hl3 hl4
      go_loopw [19] (fun kv W => ∃ m : Nat, kv = .int .i64 (m : Int) ∧ m ≤ N ∧ Hid (Below w6.heap.size w6 W)) (fun kv _ => N - (intOf kv).toNat)
      case atStart => exact ⟨0, rfl, Nat.zero_le _, Lib.hid (Below.refl _ _)⟩
      case round =>
        obtain ⟨m, rfl, hm, HX⟩ := hrel
        by_cases hmN : m < N
        · have hmN2 : (m : Int) < (N : Int) := by omega
          have hrf := refLeads_any wr ra rc (rtL l n) (by rw [HT4.out.2.2.2.2]; omega) (HT6.out.1.later HX.out) i (m : Int)
          rw [HT4.out.2.2.2.2] at hrf
          have hlr := leads_ref HT4.out.2.1 i (m : Int)
          rw [← HN.out] at hlr
          have hw : (wordsT tl i at_ N)[m]? = some (tword (leadsT tl i (m : Int)) at_) := by simp [wordsT, hmN]
          obtain ⟨O2, hO2⟩ : ∃ O2, O2 = refO (rtL l n) i (m : Int) := ⟨_, rfl⟩
          rw [← hO2] at hrf hlr
          rw [hlr] at hw
          have hcell : wr.cell? ⟨gk, m, none⟩ = some (.int .i64 (tword (handO O2) at_)) := by
            rw [HX.out.cell (p := ⟨gk, m, none⟩) HO6.out.1, HO6.out.2.cellAt m (by omega)]
            exact ints_get hw
          have hgk : gk < wr.heap.size := Nat.lt_of_lt_of_le HO6.out.1 HX.out.size
          have hOj2 : ∀ j, O2 = some j → j < n := fun j e => by
            rw [hO2, refO] at e
            split at e
            · cases e
            · have := firstR_some e
              rw [HT4.out.2.2.2.2] at this
              exact this.2
          have HC := Lib.hid (⟨hcell, hgk⟩ : _ ∧ _)
          clear hO2 hlr hw hcell hgk
          go_wp2_with fail
          refine hrf.mono ?_
          rintro e w7 ⟨rfl, rfl⟩
          clear hrf
          cases O2 with
          | none =>
            have ef : ofO none = -1 := rfl
            rw [ef]
            clear ef hOj2
            have HAt : Hid ((∀ W, (Instr.indexAt 35 (.slice (some ⟨gk, 0, none⟩) N N) (.int .i64 (m : Int))).run Try.prog W = .ok (.pointer (some ⟨gk, m, none⟩)) W) ∧ ∀ W, Below wr.heap.size wr W → W.cell? ⟨gk, m, none⟩ = some (.int .i64 (tword 0 at_))) := Lib.hid ⟨fun W => by
              have := at_35 gk 0 N N m hmN W
              rwa [Nat.zero_add] at this, fun W hW => by rw [hW.cell (p := ⟨gk, m, none⟩) HC.out.2]; exact HC.out.1⟩
            clear HC
            go_wp2_with fail
            refine FreeV.region_puts (S := fun _ _ W => Below wr.heap.size wr W) (effs := [])
              (tab := [⟨2, fun _ => [.slice (some ⟨gk, 0, none⟩) N N, .int .i64 (m : Int)], fun _ => .pointer (some ⟨gk, m, none⟩), .pure⟩,
                ⟨3, fun _ => [.pointer (some ⟨gk, m, none⟩)], fun _ => .int .i64 (tword 0 at_), .read⟩,
                ⟨6, fun _ => [.func (.func 16) #[] #[], .int .i64 0, .int .i64 at_], fun _ => .int .i64 (tword 0 at_), .ask⟩,
                ⟨7, fun _ => [.int .i64 (tword 0 at_), .int .i64 (tword 0 at_)], fun _ => .bool false, .pure⟩])
              (vs := [([], fun _ => .slice (some ⟨gk, 0, none⟩) N N), ([], fun _ => .int .i64 (m : Int)), ([], fun _ => .pointer (some ⟨gk, m, none⟩)), ([], fun _ => .int .i64 (tword 0 at_)), ([], fun _ => .int .i64 0), ([], fun _ => .int .i64 at_), ([], fun _ => .int .i64 (tword 0 at_)), ([], fun _ => .bool false)])
              (by kernel_rfl) ⟨by kernel_rfl, ⟨FreeV.d_at _ rfl rfl (fun _ W => HAt.out.1 W),
                FreeV.d_load _ rfl rfl (fun β bs W hS hd => load_3 (HAt.out.2 W hS)),
                FreeV.d_ask2 _ rfl rfl enter_16 (fun β bs W hS hd => (tword_any _ _ W).mono fun e w' h => ⟨h.1, h.2 ▸ hS⟩),
                FreeV.d_bin _ rfl rfl (fun _ xo yo W => cmp_neq3 _ _ _ (bne_self_eq_false _)),
                trivial⟩,
                fun β => by kernel_rfl, fun β => by kernel_rfl, by kernel_rfl, fun β => by kernel_rfl, by kernel_rfl⟩ (Below.refl _ _).drew (fun β => Free.from_ 95 [.slice (some ⟨gk, 0, none⟩) N N, .int .i64 (m : Int), .pointer (some ⟨gk, m, none⟩), .int .i64 (tword 0 at_), .int .i64 0, .int .i64 at_, .int .i64 (tword 0 at_), .bool false]) (fun β => by kernel_rfl) ?_
            intro β w4' h4
            rw [Free.puts_from _ _ _ (Nat.le_of_ble_eq_true rfl)]
            simp only [List.take_succ_cons, List.take_zero, List.drop_succ_cons, List.drop_zero, List.cons_append, List.nil_append, List.length_cons, List.length_nil, Nat.reduceAdd]
            have HX2 : Hid (Below w6.heap.size w6 w4') := Lib.hid (HX.out.trans (h4.mono HX.out.size))
            clear h4 HX HAt
            generalize tword 0 at_ = tq
            go_wp2_with fail
            first
              | exact ⟨⟨m + 1, by simp, by omega, HX2⟩, by simp only [intOf]; omega⟩
              | (go_roundw
                 case rel => exact ⟨m + 1, by simp, by omega, HX2⟩
                 case measure => simp [intOf]; omega)
          | some j2 =>
            have hj2 := hOj2 j2 rfl
            have ef : ofO (some j2) = (j2 : Int) := rfl
            have hj20 : (0 : Int) ≤ (j2 : Int) := by omega
            have hlh2 := fun w => lhandle_any j2 w
            rw [ef]
            clear ef hOj2
            have HAt : Hid ((∀ W, (Instr.indexAt 35 (.slice (some ⟨gk, 0, none⟩) N N) (.int .i64 (m : Int))).run Try.prog W = .ok (.pointer (some ⟨gk, m, none⟩)) W) ∧ ∀ W, Below wr.heap.size wr W → W.cell? ⟨gk, m, none⟩ = some (.int .i64 (tword (handI j2) at_))) := Lib.hid ⟨fun W => by
              have := at_35 gk 0 N N m hmN W
              rwa [Nat.zero_add] at this, fun W hW => by rw [hW.cell (p := ⟨gk, m, none⟩) HC.out.2]; exact HC.out.1⟩
            clear HC
            go_wp2_with fail
            refine (hlh2 _).mono ?_
            rintro e w7 ⟨rfl, rfl⟩
            clear hlh2
            go_wp2_with fail
            refine FreeV.region_puts (S := fun _ _ W => Below wr.heap.size wr W) (effs := [])
              (tab := [⟨2, fun _ => [.slice (some ⟨gk, 0, none⟩) N N, .int .i64 (m : Int)], fun _ => .pointer (some ⟨gk, m, none⟩), .pure⟩,
                ⟨3, fun _ => [.pointer (some ⟨gk, m, none⟩)], fun _ => .int .i64 (tword (handI j2) at_), .read⟩,
                ⟨6, fun _ => [.func (.func 16) #[] #[], .int .i64 (handI j2), .int .i64 at_], fun _ => .int .i64 (tword (handI j2) at_), .ask⟩,
                ⟨7, fun _ => [.int .i64 (tword (handI j2) at_), .int .i64 (tword (handI j2) at_)], fun _ => .bool false, .pure⟩])
              (vs := [([], fun _ => .slice (some ⟨gk, 0, none⟩) N N), ([], fun _ => .int .i64 (m : Int)), ([], fun _ => .pointer (some ⟨gk, m, none⟩)), ([], fun _ => .int .i64 (tword (handI j2) at_)), ([], fun _ => .int .i64 (handI j2)), ([], fun _ => .int .i64 at_), ([], fun _ => .int .i64 (tword (handI j2) at_)), ([], fun _ => .bool false)])
              (by kernel_rfl) ⟨by kernel_rfl, ⟨FreeV.d_at _ rfl rfl (fun _ W => HAt.out.1 W),
                FreeV.d_load _ rfl rfl (fun β bs W hS hd => load_3 (HAt.out.2 W hS)),
                FreeV.d_ask2 _ rfl rfl enter_16 (fun β bs W hS hd => (tword_any _ _ W).mono fun e w' h => ⟨h.1, h.2 ▸ hS⟩),
                FreeV.d_bin _ rfl rfl (fun _ xo yo W => cmp_neq3 _ _ _ (bne_self_eq_false _)),
                trivial⟩,
                fun β => by kernel_rfl, fun β => by kernel_rfl, by kernel_rfl, fun β => by kernel_rfl, by kernel_rfl⟩ (Below.refl _ _).drew (fun β => Free.from_ 95 [.slice (some ⟨gk, 0, none⟩) N N, .int .i64 (m : Int), .pointer (some ⟨gk, m, none⟩), .int .i64 (tword (handI j2) at_), .int .i64 (handI j2), .int .i64 at_, .int .i64 (tword (handI j2) at_), .bool false]) (fun β => by kernel_rfl) ?_
            intro β w4' h4
            rw [Free.puts_from _ _ _ (Nat.le_of_ble_eq_true rfl)]
            simp only [List.take_succ_cons, List.take_zero, List.drop_succ_cons, List.drop_zero, List.cons_append, List.nil_append, List.length_cons, List.length_nil, Nat.reduceAdd]
            have HX2 : Hid (Below w6.heap.size w6 w4') := Lib.hid (HX.out.trans (h4.mono HX.out.size))
            clear h4 HX HAt
            generalize tword (handI j2) at_ = tq
            go_wp2_with fail
            first
              | exact ⟨⟨m + 1, by simp, by omega, HX2⟩, by simp only [intOf]; omega⟩
              | (go_roundw
                 case rel => exact ⟨m + 1, by simp, by omega, HX2⟩
                 case measure => simp [intOf]; omega)
        · have hmN2 : ¬ (m : Int) < (N : Int) := by omega
          have HE := Lib.hid (HB6.out.trans (HX.out.mono HB6.out.size))
          clear HX
          go_wp2_with fail
          go_ret
          exact ⟨rfl, HE.out⟩
  | some j =>
    have hj := hOj j rfl
    have ef : ofO (some j) = (j : Int) := rfl
    have eh : handO (some j) = handI j := rfl
    have hj0 : (0 : Int) ≤ (j : Int) := by omega
    have hlh := fun w => lhandle_any j w
    rw [ef]
    rw [eh] at hls
    clear ef eh hOj hj
    go_wp2_with fail
    refine (hlh _).mono ?_
    rintro e w5 ⟨rfl, rfl⟩
    clear hlh
    generalize handI j = hj1 at hls
    go_wp2_with fail
    refine hls.mono ?_
    rintro e w5 ⟨rfl, hb5⟩
    have HB5 := Lib.hid (HB4.out.trans (hb5.mono HB4.out.size))
    have HT5 : Hid (TRow w5 ta tl ∧ RowAt w5 ra (rtRow (rtL l n)) ∧ Below w4.heap.size w4 w5) := Lib.hid ⟨HT4.out.1.later hb5, HT4.out.2.2.1.later hb5, hb5⟩
    clear hls hb5
    have hvI : (version : Int) < 4294967296 := by omega
    obtain ⟨at_, hat_⟩ : ∃ t, t = (version : Int) % 1073741825 := ⟨_, rfl⟩
    have hat1 : 0 ≤ at_ := by omega
    have hat2 : at_ ≤ 1073741824 := by omega
    have HAV := Lib.hid hat_.symm
    clear hat_
    have hlk := links_any w5 ta n tl HT5.out.1 (by rw [HT4.out.2.2.2.1]; exact Nat.le_refl _) (by rw [HT4.out.2.2.2.1]; omega) i height at_
    rw [HT4.out.2.2.2.1] at hlk
    go_wp2_with (first | rw [HAV.out] | fail)
    refine hlk.mono ?_
    rintro e w6 ⟨hb6, hQ⟩
    have HB6 := Lib.hid (HB5.out.trans (hb6.mono HB5.out.size))
    have HT6 : Hid (RowAt w6 ra (rtRow (rtL l n)) ∧ 0 < 1) := Lib.hid ⟨HT5.out.2.1.later hb6, by decide⟩
    clear hlk hb6 HT5
    rcases hQ with ⟨hor, rfl⟩ | ⟨N, rfl, hN1, hN24, gk, rfl, ho6⟩
    · rcases hor with hl1 | hl2
      · have d3 : decide (height < 1) = true := decide_eq_true hl1
        go_wp2_with fail
        go_ret
        exact ⟨rfl, HB6.out⟩
      · have hl3 : ¬ height < 1 := by omega
        have d3 : decide (height < 1) = false := decide_eq_false hl3
        have d4 : decide (24 < height) = true := decide_eq_true hl2
        go_wp2_with fail
        go_ret
        exact ⟨rfl, HB6.out⟩
    · have hl3 : ¬ (N : Int) < 1 := by omega
      have d3 : decide ((N : Int) < 1) = false := decide_eq_false hl3
      have hl4 : ¬ (24 : Int) < (N : Int) := by omega
      have d4 : decide ((24 : Int) < (N : Int)) = false := decide_eq_false hl4
      have HO6 := Lib.hid (⟨(World.ownsRow.lt ho6 gk rfl).2, ho6⟩ : _ ∧ _)
      have hN24' : (N : Int) ≤ 24 := by omega
      clear ho6
      go_wp2_with fail
      clear d3 d4 hl3 hl4
      go_loopw [19] (fun kv W => ∃ m : Nat, kv = .int .i64 (m : Int) ∧ m ≤ N ∧ Hid (Below w6.heap.size w6 W)) (fun kv _ => N - (intOf kv).toNat)
      case atStart => exact ⟨0, rfl, Nat.zero_le _, Lib.hid (Below.refl _ _)⟩
      case round =>
        obtain ⟨m, rfl, hm, HX⟩ := hrel
        by_cases hmN : m < N
        · have hmN2 : (m : Int) < (N : Int) := by omega
          have hrf := refLeads_any wr ra rc (rtL l n) (by rw [HT4.out.2.2.2.2]; omega) (HT6.out.1.later HX.out) i (m : Int)
          rw [HT4.out.2.2.2.2] at hrf
          have hlr := leads_ref HT4.out.2.1 i (m : Int)
          rw [← HN.out] at hlr
          have hw : (wordsT tl i at_ N)[m]? = some (tword (leadsT tl i (m : Int)) at_) := by simp [wordsT, hmN]
          obtain ⟨O2, hO2⟩ : ∃ O2, O2 = refO (rtL l n) i (m : Int) := ⟨_, rfl⟩
          rw [← hO2] at hrf hlr
          rw [hlr] at hw
          have hcell : wr.cell? ⟨gk, m, none⟩ = some (.int .i64 (tword (handO O2) at_)) := by
            rw [HX.out.cell (p := ⟨gk, m, none⟩) HO6.out.1, HO6.out.2.cellAt m (by omega)]
            exact ints_get hw
          have hgk : gk < wr.heap.size := Nat.lt_of_lt_of_le HO6.out.1 HX.out.size
          have hOj2 : ∀ j, O2 = some j → j < n := fun j e => by
            rw [hO2, refO] at e
            split at e
            · cases e
            · have := firstR_some e
              rw [HT4.out.2.2.2.2] at this
              exact this.2
          have HC := Lib.hid (⟨hcell, hgk⟩ : _ ∧ _)
          clear hO2 hlr hw hcell hgk
          go_wp2_with fail
          refine hrf.mono ?_
          rintro e w7 ⟨rfl, rfl⟩
          clear hrf
          cases O2 with
          | none =>
            have ef : ofO none = -1 := rfl
            rw [ef]
            clear ef hOj2
            have HAt : Hid ((∀ W, (Instr.indexAt 35 (.slice (some ⟨gk, 0, none⟩) N N) (.int .i64 (m : Int))).run Try.prog W = .ok (.pointer (some ⟨gk, m, none⟩)) W) ∧ ∀ W, Below wr.heap.size wr W → W.cell? ⟨gk, m, none⟩ = some (.int .i64 (tword 0 at_))) := Lib.hid ⟨fun W => by
              have := at_35 gk 0 N N m hmN W
              rwa [Nat.zero_add] at this, fun W hW => by rw [hW.cell (p := ⟨gk, m, none⟩) HC.out.2]; exact HC.out.1⟩
            clear HC
            go_wp2_with fail
            refine FreeV.region_puts (S := fun _ _ W => Below wr.heap.size wr W) (effs := [])
              (tab := [⟨2, fun _ => [.slice (some ⟨gk, 0, none⟩) N N, .int .i64 (m : Int)], fun _ => .pointer (some ⟨gk, m, none⟩), .pure⟩,
                ⟨3, fun _ => [.pointer (some ⟨gk, m, none⟩)], fun _ => .int .i64 (tword 0 at_), .read⟩,
                ⟨6, fun _ => [.func (.func 16) #[] #[], .int .i64 0, .int .i64 at_], fun _ => .int .i64 (tword 0 at_), .ask⟩,
                ⟨7, fun _ => [.int .i64 (tword 0 at_), .int .i64 (tword 0 at_)], fun _ => .bool false, .pure⟩])
              (vs := [([], fun _ => .slice (some ⟨gk, 0, none⟩) N N), ([], fun _ => .int .i64 (m : Int)), ([], fun _ => .pointer (some ⟨gk, m, none⟩)), ([], fun _ => .int .i64 (tword 0 at_)), ([], fun _ => .int .i64 0), ([], fun _ => .int .i64 at_), ([], fun _ => .int .i64 (tword 0 at_)), ([], fun _ => .bool false)])
              (by kernel_rfl) ⟨by kernel_rfl, ⟨FreeV.d_at _ rfl rfl (fun _ W => HAt.out.1 W),
                FreeV.d_load _ rfl rfl (fun β bs W hS hd => load_3 (HAt.out.2 W hS)),
                FreeV.d_ask2 _ rfl rfl enter_16 (fun β bs W hS hd => (tword_any _ _ W).mono fun e w' h => ⟨h.1, h.2 ▸ hS⟩),
                FreeV.d_bin _ rfl rfl (fun _ xo yo W => cmp_neq3 _ _ _ (bne_self_eq_false _)),
                trivial⟩,
                fun β => by kernel_rfl, fun β => by kernel_rfl, by kernel_rfl, fun β => by kernel_rfl, by kernel_rfl⟩ (Below.refl _ _).drew (fun β => Free.from_ 95 [.slice (some ⟨gk, 0, none⟩) N N, .int .i64 (m : Int), .pointer (some ⟨gk, m, none⟩), .int .i64 (tword 0 at_), .int .i64 0, .int .i64 at_, .int .i64 (tword 0 at_), .bool false]) (fun β => by kernel_rfl) ?_
            intro β w4' h4
            rw [Free.puts_from _ _ _ (Nat.le_of_ble_eq_true rfl)]
            simp only [List.take_succ_cons, List.take_zero, List.drop_succ_cons, List.drop_zero, List.cons_append, List.nil_append, List.length_cons, List.length_nil, Nat.reduceAdd]
            have HX2 : Hid (Below w6.heap.size w6 w4') := Lib.hid (HX.out.trans (h4.mono HX.out.size))
            clear h4 HX HAt
            generalize tword 0 at_ = tq
            go_wp2_with fail
            first
              | exact ⟨⟨m + 1, by simp, by omega, HX2⟩, by simp only [intOf]; omega⟩
              | (go_roundw
                 case rel => exact ⟨m + 1, by simp, by omega, HX2⟩
                 case measure => simp [intOf]; omega)
          | some j2 =>
            have hj2 := hOj2 j2 rfl
            have ef : ofO (some j2) = (j2 : Int) := rfl
            have hj20 : (0 : Int) ≤ (j2 : Int) := by omega
            have hlh2 := fun w => lhandle_any j2 w
            rw [ef]
            clear ef hOj2
            have HAt : Hid ((∀ W, (Instr.indexAt 35 (.slice (some ⟨gk, 0, none⟩) N N) (.int .i64 (m : Int))).run Try.prog W = .ok (.pointer (some ⟨gk, m, none⟩)) W) ∧ ∀ W, Below wr.heap.size wr W → W.cell? ⟨gk, m, none⟩ = some (.int .i64 (tword (handI j2) at_))) := Lib.hid ⟨fun W => by
              have := at_35 gk 0 N N m hmN W
              rwa [Nat.zero_add] at this, fun W hW => by rw [hW.cell (p := ⟨gk, m, none⟩) HC.out.2]; exact HC.out.1⟩
            clear HC
            go_wp2_with fail
            refine (hlh2 _).mono ?_
            rintro e w7 ⟨rfl, rfl⟩
            clear hlh2
            go_wp2_with fail
            refine FreeV.region_puts (S := fun _ _ W => Below wr.heap.size wr W) (effs := [])
              (tab := [⟨2, fun _ => [.slice (some ⟨gk, 0, none⟩) N N, .int .i64 (m : Int)], fun _ => .pointer (some ⟨gk, m, none⟩), .pure⟩,
                ⟨3, fun _ => [.pointer (some ⟨gk, m, none⟩)], fun _ => .int .i64 (tword (handI j2) at_), .read⟩,
                ⟨6, fun _ => [.func (.func 16) #[] #[], .int .i64 (handI j2), .int .i64 at_], fun _ => .int .i64 (tword (handI j2) at_), .ask⟩,
                ⟨7, fun _ => [.int .i64 (tword (handI j2) at_), .int .i64 (tword (handI j2) at_)], fun _ => .bool false, .pure⟩])
              (vs := [([], fun _ => .slice (some ⟨gk, 0, none⟩) N N), ([], fun _ => .int .i64 (m : Int)), ([], fun _ => .pointer (some ⟨gk, m, none⟩)), ([], fun _ => .int .i64 (tword (handI j2) at_)), ([], fun _ => .int .i64 (handI j2)), ([], fun _ => .int .i64 at_), ([], fun _ => .int .i64 (tword (handI j2) at_)), ([], fun _ => .bool false)])
              (by kernel_rfl) ⟨by kernel_rfl, ⟨FreeV.d_at _ rfl rfl (fun _ W => HAt.out.1 W),
                FreeV.d_load _ rfl rfl (fun β bs W hS hd => load_3 (HAt.out.2 W hS)),
                FreeV.d_ask2 _ rfl rfl enter_16 (fun β bs W hS hd => (tword_any _ _ W).mono fun e w' h => ⟨h.1, h.2 ▸ hS⟩),
                FreeV.d_bin _ rfl rfl (fun _ xo yo W => cmp_neq3 _ _ _ (bne_self_eq_false _)),
                trivial⟩,
                fun β => by kernel_rfl, fun β => by kernel_rfl, by kernel_rfl, fun β => by kernel_rfl, by kernel_rfl⟩ (Below.refl _ _).drew (fun β => Free.from_ 95 [.slice (some ⟨gk, 0, none⟩) N N, .int .i64 (m : Int), .pointer (some ⟨gk, m, none⟩), .int .i64 (tword (handI j2) at_), .int .i64 (handI j2), .int .i64 at_, .int .i64 (tword (handI j2) at_), .bool false]) (fun β => by kernel_rfl) ?_
            intro β w4' h4
            rw [Free.puts_from _ _ _ (Nat.le_of_ble_eq_true rfl)]
            simp only [List.take_succ_cons, List.take_zero, List.drop_succ_cons, List.drop_zero, List.cons_append, List.nil_append, List.length_cons, List.length_nil, Nat.reduceAdd]
            have HX2 : Hid (Below w6.heap.size w6 w4') := Lib.hid (HX.out.trans (h4.mono HX.out.size))
            clear h4 HX HAt
            generalize tword (handI j2) at_ = tq
            go_wp2_with fail
            first
              | exact ⟨⟨m + 1, by simp, by omega, HX2⟩, by simp only [intOf]; omega⟩
              | (go_roundw
                 case rel => exact ⟨m + 1, by simp, by omega, HX2⟩
                 case measure => simp [intOf]; omega)
        · have hmN2 : ¬ (m : Int) < (N : Int) := by omega
          have HE := Lib.hid (HB6.out.trans (HX.out.mono HB6.out.size))
          clear HX
          go_wp2_with fail
          go_ret
          exact ⟨rfl, HE.out⟩
end Go.Proofs.Ytjlifkhpohfiaaa
