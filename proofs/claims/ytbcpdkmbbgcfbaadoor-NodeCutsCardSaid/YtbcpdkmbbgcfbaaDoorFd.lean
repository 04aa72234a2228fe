/- NodeCuts's law. Condition: the library's table stands. -/
import Derived.Test.YtbcpdkmbbgcfbaaDoorFc
namespace Go.Proofs.YtbcpdkmbbgcfbaaDoor
open Go.RowKit Go.Op
set_option maxRecDepth 100000

theorem ent_19 (xs : Array Value) (w : World) : (callFunc 19 xs).run Tryd.prog w = .ok (.enter 19 xs) w := by kernel_rfl
set_option maxHeartbeats 1000000 in
theorem refLeft_any (w : World) (a : Option Addr) (cap : Nat) (l : List Int) (hl : l.length ≤ 1000) (hr : l ≠ [] → ∃ g o, a = some ⟨g, o, none⟩ ∧ w.rangeAt g o (ints l)) (v : Int) :
    Calls Tryd.prog 18 #[.slice a l.length cap, .int .i64 v] w fun e w' => e = .returned (.int .i64 (leftOf v l)) ∧ w = w' := by
  have h1 := refAt_any w a cap l hl hr v
  have hp := posOf_ge v l
  obtain ⟨n, hn⟩ : ∃ n, n = l.length := ⟨_, rfl⟩
  obtain ⟨p, hpp⟩ : ∃ p, p = posOf v l := ⟨_, rfl⟩
  have hlo : leftOf v l = if p < 0 then (n : Int) else p + 1 := by rw [leftOf, ← hpp, ← hn]
  rw [← hn, ← hpp] at h1
  rw [hlo]
  rw [← hn]
  rw [← hpp] at hp
  have hn2 : (n : Int) ≤ 1000 := by omega
  have hp1 : -1 ≤ p := hp.1
  have hp2 : p < 1000 := by omega
  clear hr hl hlo hn hpp hp
  by_cases hv : p < 0
  · rw [if_pos hv]
    go_enter Tryd.func18, Tryd.ntmps18
    go_wp2_with fail
    refine h1.mono ?_
    rintro e w1 ⟨rfl, rfl⟩
    clear h1
    go_wp2
    go_ret
    exact ⟨rfl, rfl⟩
  · rw [if_neg hv]
    go_enter Tryd.func18, Tryd.ntmps18
    go_wp2_with fail
    refine h1.mono ?_
    rintro e w1 ⟨rfl, rfl⟩
    clear h1
    go_wp2
    go_ret
    exact ⟨rfl, rfl⟩
set_option maxHeartbeats 2000000 in
theorem cuts_law (w : World) (hT : TabAt w) (a : Option Addr) (cap : Nat) (bs : List Nat) (hb : Bys w [] a bs) (v : Int) : Calls Tryd.prog 4 #[.slice a bs.length cap, .int .i64 v] w fun e w' => e = .returned (.bool true) ∧ Below w.heap.size w w' := by
  obtain ⟨wa, hwa⟩ : ∃ W, W = w.alloc (.cells #[.int .i64 v] 3) := ⟨_, rfl⟩
  have hba : Below w.heap.size w wa := by rw [hwa]; exact (Below.refl _ _).alloc (Nat.le_refl _) _
  have hv : SVar wa w.heap.size [.int .i64 v] := by rw [hwa]; exact snew _ _ _
  have haw := awake_any wa (hT.below hba)
  have a4 := as4_yes
  have hm := hmf
  have HW := Lib.hid hwa.symm
  have HBa := Lib.hid hba
  have HT := Lib.hid hT
  have HB := Lib.hid hb
  have HVv := Lib.hid hv
  obtain ⟨n, hn⟩ : ∃ n, n = bs.length := ⟨_, rfl⟩
  have HN := Lib.hid hn
  rw [← hn]
  clear hT hb hba hv hwa hn
  go_enter Tryd.func4, Tryd.ntmps4
  go_wp2_with (first | rw [HW.out] | fail)
  refine haw.mono ?_
  rintro e w1 ⟨rfl, hb1'⟩
  have hb1 := HBa.out.trans (hb1'.mono HBa.out.size)
  by_cases hin : 1 ≤ n ∧ n ≤ 40
  · have i1 : ¬ ((n : Int) < 1) := by omega
    have i2 : ¬ (40 < (n : Int)) := by omega
    have hl := lay_any w1 (HT.out.below hb1) (a := a) (cap := cap) bs (by rw [← HN.out]; omega) (HB.out.later hb1)
    rw [← HN.out] at hl
    have HB1 := Lib.hid hb1
    have HV1 := Lib.hid (HVv.out.later hb1')
    clear haw hb1 hb1'
    go_wp2_with fail
    refine hl.mono ?_
    rintro e w2 ⟨⟨b, c, r, G, m, y, hd, p1, p2, l, rfl, hL⟩, hb2⟩
    have hver := laid_ver hL HB.out.le (by rw [← HN.out]; exact hin.2)
    have hlen := hL.len
    rw [← HN.out] at hlen
    have h0 : l ≠ [] := fun e => by rw [e] at hlen; simp at hlen; omega
    obtain ⟨w3, hw3⟩ : ∃ W, W = w2.alloc (.cells (Yd.row b y).toArray 29) := ⟨_, rfl⟩
    have hb3 : Below w2.heap.size w2 w3 := by rw [hw3]; exact (Below.refl _ _).alloc (Nat.le_refl _) _
    have hz3 : w3.heap.size = w2.heap.size + 1 := by rw [hw3]; simp
    have hy3 : SVar w3 w2.heap.size (Yd.row b y) := by rw [hw3]; exact snew _ _ _
    have hv3 := (HV1.out.later hb2).later hb3
    have hE3 := hL.has.later hb3
    have hzv := HV1.out.lt
    have hs2 := hb2.size
    obtain ⟨g1, g2, g3⟩ := hL.has.lt
    obtain ⟨q1, q2, q3, q4⟩ := hL.has.ge
    have hcnt := hL.ym.cnt
    have hcs := hL.ch
    rw [← hL.vers] at hcs
    obtain ⟨k, m1', m2', ek, hk1, hk2, -⟩ := cut2_go (v := v) hL.ym.ch hL.ym.word (ym_flat hL.ym).1 h0 (by omega) (ym_flat hL.ym).2.1
    obtain ⟨vs, hvs⟩ : ∃ vs, vs = l.map fun x => x.2.1.ver := ⟨_, rfl⟩
    have hvl : vs.length = n := by rw [hvs, List.length_map, hlen]
    have hcs2 := hcs
    rw [← hvs] at hcs2
    have hchn := hcs2.n
    rw [ints_length, hvl] at hchn
    have hlf := refLeft_any w3 y.ch.a y.ch.cap vs (by omega) (fun hne => by
      rcases hcs2.row with e | ⟨g, o, rr, e, hm, hr⟩
      · exact absurd (List.length_eq_zero_iff.1 (by rw [← ints_length, e]; rfl)) hne
      · obtain ⟨m0, -, -, -, -, h5⟩ := hE3
        exact ⟨g, o, e, fun j u hj => (h5 g rr hm).1.at_ _ _ (hr j u hj)⟩) v
    rw [hvl, hvs, ek] at hlf
    obtain ⟨w4, hw4⟩ : ∃ W, W = w3.alloc (.cells #[.int .i64 (k : Int)] 3) := ⟨_, rfl⟩
    have hb4 : Below w3.heap.size w3 w4 := by rw [hw4]; exact (Below.refl _ _).alloc (Nat.le_refl _) _
    have hz4 : w4.heap.size = w3.heap.size + 1 := by rw [hw4]; simp
    have hy4 := hy3.later hb4
    have hv4 := hv3.later hb4
    have hi4 : SVar w4 w3.heap.size [.int .i64 (k : Int)] := by rw [hw4]; exact snew _ _ _
    have hE4 := hE3.later hb4
    have hdo := do_any w4 b 19 #[.pointer (some ⟨w2.heap.size, 0, none⟩), .pointer (some ⟨w.heap.size, 0, none⟩), .pointer (some ⟨w3.heap.size, 0, none⟩)] _ ent_19 (cuts1_any hE4 (by omega) h0 hL.ym.ch (by omega) (ym_flat hL.ym).2.1 hL.ym.word (ym_flat hL.ym).1 hL.n hcs hL.hs v k ek hy4 ⟨by omega, by simp only [List.mem_cons, List.not_mem_nil, or_false]; omega⟩ (hv4.cell (i := 0) rfl) ⟨by omega, by simp only [List.mem_cons, List.not_mem_nil, or_false]; omega⟩ (hi4.cell (i := 0) rfl) ⟨by omega, by simp only [List.mem_cons, List.not_mem_nil, or_false]; omega⟩)
    have c0 := hy4.cell (i := 0) rfl
    have c5 := hy3.cell (i := 5) rfl
    rw [hchn] at c5
    have cv3 := hv3.cell (i := 0) rfl
    have HL := Lib.hid (⟨hL, hver, hlen, hk1, hk2⟩ : _ ∧ _ ∧ _ ∧ _ ∧ _)
    have HK := Lib.hid (⟨hE4, hy4, hi4, hz3, hz4, g1, g2, g3⟩ : _ ∧ _ ∧ _ ∧ _ ∧ _ ∧ _ ∧ _ ∧ _)
    simp only [Yd.row] at hw3
    unfold Yd.v
    have HW3 := Lib.hid hw3.symm
    have HW4 := Lib.hid hw4.symm
    clear hl hL hb2 hb3 hb4 hE3 hE4 hy3 hy4 hv3 hv4 hi4 g1 g2 g3 q1 q2 q3 q4 hw3 hw4 hver hlen hcnt hcs hcs2 hchn hvs hvl ek hk1 hk2 hz3 hz4 hzv hs2 h0
    go_wp2_with (first | rw [HW3.out] | fail)
    refine hlf.mono ?_
    rintro e w3' ⟨rfl, rfl⟩
    clear hlf c5 cv3
    go_wp2_with (first | rw [HW4.out] | fail)
    refine hdo.mono ?_
    rintro e w5 ⟨u, rfl, rfl, G2, m2, hbn, hE5, hgr, hF⟩
    obtain ⟨hL, hver, hlen, hk1, hk2⟩ := HL.out
    obtain ⟨hE4, hy4, hi4, hz3, hz4, g1, g2, g3⟩ := HK.out
    have hy5 : SVar w5 w2.heap.size (Yd.row b y) := hy4.same hbn.size (hbn.block _ (by omega) (by simp only [List.mem_cons, List.not_mem_nil, or_false]; omega))
    have hi5 : SVar w5 w3.heap.size [.int .i64 (k : Int)] := hi4.same hbn.size (hbn.block _ (by omega) (by simp only [List.mem_cons, List.not_mem_nil, or_false]; omega))
    have g0' := hy5.cell (i := 0) rfl
    have g1' := hy5.cell (i := 1) rfl
    have g2' := hy5.cell (i := 2) rfl
    have g3' := hy5.cell (i := 3) rfl
    have g4' := hy5.cell (i := 4) rfl
    have g5' := hy5.cell (i := 5) rfl
    have g6' := hy5.cell (i := 6) rfl
    have ci := hi5.cell (i := 0) rfl
    have hfit := fits_behind hL hE5 hgr.1 hF (by omega) (by omega) (by omega) hver
    have HE : Hid (∀ W, ButN [b, c, r] w5.heap.size w5 W → Below w.heap.size w W) := fun W hW => HB1.out.trans ((hE5.butBelow hW).mono HB1.out.size)
    unfold Yd.v at hfit
    clear hdo hbn hE5 hgr hF hL hver hlen hk1 hk2 hE4 hy4 hi4 hz3 hz4 g1 g2 g3 hy5 hi5 c0
    go_wp2_with fail
    refine hfit.mono ?_
    rintro e w6 ⟨rfl, hb6⟩
    have HE2 := Lib.hid (HE.out w6 hb6)
    clear hfit hb6 HE
    go_wp2_with fail
    go_ret
    exact ⟨rfl, HE2.out⟩
  · have haw2 := awake_any w1 (HT.out.below hb1)
    have HF : Hid (∀ w4, Below w1.heap.size w1 w4 → Below w.heap.size w w4) := fun w4 h4 => hb1.trans (h4.mono hb1.size)
    clear haw hb1 hb1'
    by_cases hn1 : 1 ≤ n
    · have i1 : ¬ ((n : Int) < 1) := by omega
      have i2 : (40 : Int) < (n : Int) := by omega
      go_wp2_with fail
      refine haw2.mono ?_
      rintro e w4 ⟨rfl, hb⟩
      have HE := Lib.hid (HF.out w4 hb)
      clear haw2 hb HF
      go_wp2
      go_ret
      exact ⟨rfl, HE.out⟩
    · have i1 : (n : Int) < 1 := by omega
      go_wp2_with fail
      refine haw2.mono ?_
      rintro e w4 ⟨rfl, hb⟩
      have HE := Lib.hid (HF.out w4 hb)
      clear haw2 hb HF
      go_wp2
      go_ret
      exact ⟨rfl, HE.out⟩
theorem cutsLaw (a0 : Option Addr) (l0 : List Int) (cap0 : Nat) {W : World} (h0 : BysI W a0 l0) (v : Int) (_hv : (Lit.int .i64 v).wf = true) (_W : World) (hT : TabAt W) :
    Calls Tryd.prog 4 #[.slice a0 l0.length cap0, .int .i64 v] W fun e w' => e = .returned (.bool true) ∧ Below W.heap.size W w' := by
  obtain ⟨bs, e, hb⟩ := h0.nat
  rw [← e]
  exact cuts_law W hT a0 cap0 bs hb v
end Go.Proofs.YtbcpdkmbbgcfbaaDoor
