/- RegPlays's law. Condition: the library's table stands. -/
import Derived.Test.YtgjkkbgdkdipgaaDoorPyE
namespace Go.Proofs.YtgjkkbgdkdipgaaDoor
open Go.RowKit Go.Op
set_option maxRecDepth 100000

theorem AcAt.over {w0 : World} {b c r : Nat} {G : List (Nat × List Sw)} {w w1 : World} {m : M} {z : Nat} {act : Ac} (h : AcAt w z 0 act) (_he : HasE w0 b c r G w m) (hb : ButN [b, c, r] w.heap.size w w1) (hl : LocM w0 b c r G w z) : AcAt w1 z 0 act := by
  have k : ∀ i, w1.cell? ⟨z, i, none⟩ = w.cell? ⟨z, i, none⟩ := fun i => World.cell?_of_block (w := w) (a := ⟨z, i, none⟩) (hb.block z hl.lt (by have := hl.ne; simp; omega))
  unfold AcAt
  rw [k, k, k, k, k]
  exact h
theorem size47 : (Tryd.prog.info? 47).map (·.size) = some 5 := by kernel_rfl
theorem AcAt.load {w : World} {z o : Nat} {act : Ac} (h : AcAt w z o act) : (Instr.loadAt 47 (.pointer (some ⟨z, o, none⟩))).run Tryd.prog w = .ok act.v w :=
  run_loadAt_mid w z o 47 [.int .u8 act.act, .int .i64 act.pos, .int .i64 act.n, .int .i64 act.m, .bool act.raw] _ (fun j v hj => by
    obtain ⟨h0, h1, h2, h3, h4⟩ := h
    match j, hj with
    | 0, hj => simp at hj; subst hj; exact h0
    | 1, hj => simp at hj; subst hj; exact h1
    | 2, hj => simp at hj; subst hj; exact h2
    | 3, hj => simp at hj; subst hj; exact h3
    | 4, hj => simp at hj; subst hj; exact h4) Tryd.underlying47 rfl size47
theorem AcAt.new (w : World) (act : Ac) : AcAt (w.alloc act.obj) w.heap.size 0 act := by
  have k2 : ∀ i, (w.alloc act.obj).cell? ⟨w.heap.size, i, none⟩ = (#[.int .u8 act.act, .int .i64 act.pos, .int .i64 act.n, .int .i64 act.m, .bool act.raw] : Array Value)[i]? := fun i => by rw [Ac.obj, World.cell?_alloc_new]
  unfold AcAt
  rw [k2, k2, k2, k2, k2]
  exact ⟨rfl, rfl, rfl, rfl, rfl⟩
set_option maxHeartbeats 4000000 in
/-- The loop. -/
theorem plays_law (w : World) (hT : TabAt w) (a k : Int) (a0 : Option Addr) (L cap : Nat) (l : List Ac) (hl : l.length = L) (hacts : Acts w a0 l) (hok : ActsOk l) :
    Calls Tryd.prog 3 #[.int .i64 a, .int .i64 k, .slice a0 L cap] w fun e w' => e = .returned (.bool true) ∧ Below w.heap.size w w' := by
  obtain ⟨wa, hwa⟩ : ∃ W, W = (w.alloc (.cells #[.int .i64 a] 3)).alloc (.cells #[.int .i64 k] 3) := ⟨_, rfl⟩
  have hba : Below w.heap.size w wa := by rw [hwa]; exact ((Below.refl _ _).alloc (Nat.le_refl _) _).alloc (by simp) _
  have ca : wa.cell? ⟨w.heap.size, 0, none⟩ = some (.int .i64 a) := by rw [hwa]; simp [go_sem]
  have ck : wa.cell? ⟨w.heap.size + 1, 0, none⟩ = some (.int .i64 k) := by rw [hwa]; simp [go_sem]
  have hza : wa.heap.size = w.heap.size + 2 := by rw [hwa]; simp
  have haw := awake_any wa (hT.below hba)
  have a4 := as4_yes
  have hm := hmf1
  have pe := ptr_eq24
  have HT := Lib.hid hT
  have HW := Lib.hid hwa.symm
  have HA := Lib.hid (⟨hba, hza, hacts, hok, hl⟩ : _ ∧ _ ∧ _ ∧ _ ∧ _)
  clear hT hacts hok hl hba hwa
  by_cases hL : ¬ L ≤ 150
  · have hL2 : ¬ (L : Int) ≤ 150 := by omega
    go_enter Tryd.func3, Tryd.ntmps3
    go_wp2_with (first | rw [HW.out] | fail)
    refine haw.mono ?_
    rintro e w1 ⟨rfl, hb1⟩
    have hb01 := HA.out.1.trans (hb1.mono HA.out.1.size)
    have haw2 := awake_any w1 (HT.out.below hb01)
    have HB1 := Lib.hid hb01
    clear haw hb1 hb01 ca ck
    go_wp2_with fail
    refine haw2.mono ?_
    rintro e w2 ⟨rfl, hb2⟩
    have HE := Lib.hid (HB1.out.trans (hb2.mono HB1.out.size))
    clear haw2 hb2 HB1
    go_wp2
    go_ret
    exact ⟨rfl, HE.out⟩
  have hL2 : (L : Int) ≤ 150 := by omega
  by_cases hbad : a < 1 ∨ 64 < a ∨ k < 0 ∨ 64 < k
  · have hcase : a < 1 ∨ (1 ≤ a ∧ 64 < a) ∨ (1 ≤ a ∧ a ≤ 64 ∧ k < 0) ∨ (1 ≤ a ∧ a ≤ 64 ∧ 0 ≤ k ∧ 64 < k) := by omega
    have HBad := Lib.hid hbad
    clear hbad hL
    rcases hcase with h1 | ⟨h1, h2⟩ | ⟨h1, h2, h3⟩ | ⟨h1, h2, h3, h4⟩
    all_goals
      go_enter Tryd.func3, Tryd.ntmps3
      go_wp2_with (first | rw [HW.out] | fail)
      refine haw.mono ?_
      rintro e w1 ⟨rfl, hb1⟩
      have hb01 := HA.out.1.trans (hb1.mono HA.out.1.size)
      have hnew : Calls Tryd.prog 8 #[.int .i64 5] w1 fun e w' => Made w1 5 e w' := new_any 5 (by decide) (by decide) w1
      have ca1 := (hb1.cell (p := ⟨w.heap.size, 0, none⟩) (by simp only; have := HA.out.2.1; omega)).trans ca
      have ck1 := (hb1.cell (p := ⟨w.heap.size + 1, 0, none⟩) (by simp only; have := HA.out.2.1; omega)).trans ck
      have HB1 := Lib.hid (⟨hb1, hb01⟩ : _ ∧ _)
      clear haw hb1 hb01 ca ck
      go_wp2_with fail
      refine hnew.mono ?_
      rintro e w2 ⟨b, c, r, rfl, hAt, hb2, g1, g2, g3⟩
      have hs1 := HB1.out.1.size
      have hE0 : HasE w b c r [] w2 (M.new 5) := HasE.lower (w1 := w1)
        ⟨M.new 5, ⟨hAt, new_ok _ (by decide), hb2, by omega, by omega, by omega⟩, (fun i x hx => by
          simp only [M.new, List.getElem?_replicate] at hx
          split at hx
          · cases hx; exact no_in
          · cases hx), Int.le_refl _, new_e _, fun g l hg => (by cases hg)⟩ HB1.out.2
      have ca2 := (hb2.cell (p := ⟨w.heap.size, 0, none⟩) (by simp only; have := HA.out.2.1; omega)).trans ca1
      have ck2 := (hb2.cell (p := ⟨w.heap.size + 1, 0, none⟩) (by simp only; have := HA.out.2.1; omega)).trans ck1
      have hdo := do_any w2 b 10 #[.pointer (some ⟨w.heap.size, 0, none⟩), .pointer (some ⟨w.heap.size + 1, 0, none⟩)] _ enter_10 (bad1_any a k HBad.out hE0 (by simp [M.new]) HT.out ca2 ck2)
      have HF : Hid (∀ w3, ButN [b, c, r] w2.heap.size w2 w3 → Below w.heap.size w w3) := fun w3 h3 => hE0.butBelow h3
      clear hnew hAt hb2 g1 g2 g3 hE0 hs1
      go_wp2_with fail
      refine hdo.mono ?_
      rintro e w3 ⟨u, rfl, rfl, hb, G3, hE3⟩
      have HE := Lib.hid (HF.out w3 hb)
      have hlv := live_E hE3
      rw [show (M.new 5).live = 0 from rfl] at hlv
      clear hdo hb HF hE3 ca1 ck1 ca2 ck2
      go_wp2_with fail
      refine hlv.mono ?_
      rintro e w4 ⟨rfl, rfl⟩
      clear hlv
      go_wp2
      go_ret
      exact ⟨rfl, HE.out⟩
  obtain ⟨an, rfl⟩ : ∃ an : Nat, a = (an : Int) := ⟨a.toNat, by omega⟩
  obtain ⟨kn, rfl⟩ : ∃ kn : Nat, k = (kn : Int) := ⟨k.toNat, by omega⟩
  have i1 : 1 ≤ (an : Int) := by omega
  have i2 : (an : Int) ≤ 64 := by omega
  have i3 : (kn : Int) ≤ 64 := by omega
  clear hbad hL
  go_enter Tryd.func3, Tryd.ntmps3
  go_wp2_with (first | rw [HW.out] | fail)
  refine haw.mono ?_
  rintro e w1 ⟨rfl, hb1⟩
  have hb01 := HA.out.1.trans (hb1.mono HA.out.1.size)
  have ca1 := (hb1.cell (p := ⟨w.heap.size, 0, none⟩) (by simp only; have := HA.out.2.1; omega)).trans ca
  have ck1 := (hb1.cell (p := ⟨w.heap.size + 1, 0, none⟩) (by simp only; have := HA.out.2.1; omega)).trans ck
  have hl1 := lay_any w1 (HT.out.below hb01) an kn ⟨by omega, by omega⟩ (by omega)
  have HB1 := Lib.hid (⟨hb1, hb01⟩ : _ ∧ _)
  clear haw hb1 hb01 ca ck
  go_wp2_with fail
  refine hl1.mono ?_
  rintro e w2 ⟨⟨b, c, r, G, R, S, P, m, rfl, hLd⟩, hb2⟩
  have hs1 := HB1.out.1.size
  have hs2 := hb2.size
  have ca2 := (hb2.cell (p := ⟨w.heap.size, 0, none⟩) (by simp only; have := HA.out.2.1; omega)).trans ca1
  have ck2 := (hb2.cell (p := ⟨w.heap.size + 1, 0, none⟩) (by simp only; have := HA.out.2.1; omega)).trans ck1
  obtain ⟨w3, hw3⟩ : ∃ W, W = w2.alloc (yobj b R) := ⟨_, rfl⟩
  have hb3 : Below w2.heap.size w2 w3 := by rw [hw3]; exact (Below.refl _ _).alloc (Nat.le_refl _) _
  have z3 : w3.heap.size = w2.heap.size + 1 := by rw [hw3]; simp
  have hy3 : YVar w3 w2.heap.size b R := by rw [hw3]; exact ynew w2 b R
  have ca3 := (hb3.cell (p := ⟨w.heap.size, 0, none⟩) (by simp only; have := HA.out.2.1; omega)).trans ca2
  have ck3 := (hb3.cell (p := ⟨w.heap.size + 1, 0, none⟩) (by simp only; have := HA.out.2.1; omega)).trans ck2
  have hrn := refnew_any w3 0 an kn (by omega) (by omega)
  unfold Rs.v at hrn
  unfold yv
  have HLd := Lib.hid (⟨hLd, hb2, hb3, hy3, hs1, hs2, z3⟩ : _ ∧ _ ∧ _ ∧ _ ∧ _ ∧ _ ∧ _)
  unfold yobj at hw3
  have HW3 := Lib.hid hw3.symm
  clear hl1 hLd hb2 hb3 hy3 hs1 hs2 z3 hw3 ca1 ck1 ca2 ck2
  go_wp2_with (first | rw [HW3.out] | fail)
  refine hrn.mono ?_
  rintro e w4 ⟨x, rfl, hn4⟩
  obtain ⟨hLd, hb2, hb3, hy3, hs1, hs2, z3⟩ := HLd.out
  obtain ⟨w5, hw5⟩ : ∃ W, W = w4.alloc (x.obj 0 an kn) := ⟨_, rfl⟩
  have hb5 : Below w4.heap.size w4 w5 := by rw [hw5]; exact (Below.refl _ _).alloc (Nat.le_refl _) _
  have z5 : w5.heap.size = w4.heap.size + 1 := by rw [hw5]; simp
  have hb35 : Below w3.heap.size w3 w5 := hn4.2.trans (hb5.mono hn4.2.size)
  have hs4 := hn4.2.size
  have bx : V3 w5 w4.heap.size 0 (.slice x.sa an x.sc) (.slice x.pa kn x.pc) := by rw [hw5]; exact V3.new w4 0 _ _
  have hE2 : HasE w b c r G w2 m := hLd.has.lower HB1.out.2
  have hE5 : HasE w b c r G w5 m := (hE2.later hb3).later hb35
  have hrg : RgL w b c r G w5 R S P := ((hLd.rg.later hb3).later hb35).lower (by have := HA.out.2.1; omega)
  have rlow : ∀ ad (l : List Int) g, NumL w1 b c r G w2 ad l → ad = some ⟨g, 0, none⟩ → l ≠ [] → g ≠ w4.heap.size ∧ g < w5.heap.size := fun ad l g hN e hne => by
    rcases hN with e2 | ⟨g2, e2, hl2, -⟩
    · exact absurd e2 hne
    · rw [e] at e2
      cases e2
      have := hl2.lt
      omega
  have HM0 : Hid (LMid w w5.heap.size b c r w2.heap.size w4.heap.size R S P 0 0 [] (.slice none 0 0) G m 0 (List.replicate an (-1)) (List.replicate kn (0, -1)) x w5) := {
    has := hE5
    rm := by have := hLd.rm; rw [← hLd.top] at this; exact this.more (by decide)
    rg := hrg
    y := hy3.same (hb35.block _ (by omega))
    ly := hE2.locge (Nat.le_refl _) (by omega)
    bx := by rw [hLd.sl, hLd.pl]; exact bx
    lw := hE2.locge (by omega) (by omega)
    ne := ⟨by omega, by omega, by omega⟩
    is := hn4.1.keep (fun z hz hlz => by
      rcases hz with hz | hz
      · exact hz.elim
      · exact ⟨hE2.locge (by omega) (by omega), by omega, fun e => (by cases e)⟩) hb5.size (fun z _ hlz => hb5.block z hlz)
    own := OwnI.nil _ _
    lo := fun k e => (by cases e)
    rs := fun g e hne => rlow _ _ g hLd.rg.s e hne
    rp := fun g e hne => rlow _ _ g hLd.rg.p e hne
    hV := by decide
    cnt := by have := hLd.cnt; simp; omega
    idb := fun z hz => (by cases hz)
    len := by simp
    bs := Nat.le_refl _ }
  have HBl : Hid (Below w.heap.size w w5) := hE5.ge.2.2.2
  unfold Rs.obj at hw5
  have HW5 := Lib.hid hw5.symm
  clear hrn hn4 hLd hb2 hb3 hy3 hs1 hs2 z3 hb5 z5 hb35 hs4 bx hE2 hE5 hrg rlow hw5 HLd
  clear HBl HB1 ca3 ck3 HW
  go_wp2_with (first | rw [HW5.out] | fail)
  clear HW3 HW5
  generalize w5.heap.size = B0 at *
  generalize w2.heap.size = zy at *
  generalize w4.heap.size = zw at *
  go_loopw [14, 15] (fun lv iv wr => ∃ (i n : Nat) (va : Option Addr) (vc : Nat), iv = .int .i64 (i : Int) ∧ i ≤ L ∧ lv = .slice va n vc ∧ n ≤ 150 ∧ Hid (∃ ids : List Int, ids.length = n ∧ ∃ G m V A B x, LMid w B0 b c r zy zw R S P i i ids (.slice va n vc) G m V A B x wr)) (fun _ iv _ => L - (intOf iv).toNat)
  case atStart => exact ⟨0, 0, none, 0, rfl, Nat.zero_le _, rfl, by decide, [], rfl, _, _, _, _, _, _, HM0.out⟩
  case round =>
    obtain ⟨i, n, va, vc, rfl, hi, rfl, hn, hR⟩ := hrel
    clear HM0
    obtain ⟨ids, hlen, G, m, V, A, B, x, hM⟩ := hR.out
    have HLen := Lib.hid hlen
    have hn2 : (n : Int) ≤ 150 := by omega
    by_cases hlt : i < L
    · have i1' : (i : Int) < (L : Int) := by omega
      have HL : Hid (i < L ∧ L ≤ 150) := ⟨hlt, by omega⟩
      have hac := HA.out.2.2.1.below hM.below
      obtain ⟨ab, off, ea, hat⟩ : ∃ ab off, a0 = some ⟨ab, off, none⟩ ∧ ∀ k (hk : k < l.length), AcAt wr ab (off + k * 5) (l[k]'hk) := by
        rcases hac with e | ⟨ab, off, e, _, h3⟩
        · exfalso; have := HA.out.2.2.2.2; rw [e] at this; simp at this; omega
        · exact ⟨ab, off, e, h3⟩
      have hxa := hat i (by rw [HA.out.2.2.2.2]; exact hlt)
      have hxo := HA.out.2.2.2.1 (l[i]'(by rw [HA.out.2.2.2.2]; exact hlt)) (List.getElem_mem _)
      generalize l[i]'(by rw [HA.out.2.2.2.2]; exact hlt) = act at hxa hxo
      obtain ⟨hact1, hact2, -, hact3, -⟩ := hxo
      have HAk : Hid (True ∧ act.n < 9223372036854775808) := ⟨trivial, by omega⟩
      obtain ⟨r0, r1, r2, r3, r4⟩ := hxa
      subst ea
      obtain ⟨w1, hw1⟩ : ∃ W, W = wr.alloc act.obj := ⟨_, rfl⟩
      have hbx : Below wr.heap.size wr w1 := by rw [hw1]; exact (Below.refl _ _).alloc (Nat.le_refl _) _
      have hz1 : w1.heap.size = wr.heap.size + 1 := by rw [hw1]; simp
      have HM1 := Lib.hid (hM.later hbx)
      have HAc : Hid (AcAt w1 wr.heap.size 0 act) := by rw [hw1]; exact AcAt.new wr act
      have HLo : Hid (LocM w b c r G w1 wr.heap.size) := hM.has.locge (Nat.le_refl _) (by omega)
      obtain ⟨a0, a1, a2, a3, a4⟩ := HAc.out
      simp only [Nat.zero_add] at a0 a1 a2 a3 a4
      obtain ⟨y0, y1, y2, y3, -⟩ := HM1.out.y
      obtain ⟨x0, x1, x2, xz⟩ := HM1.out.bx
      unfold Ac.obj at hw1
      have HW1 := Lib.hid hw1.symm
      clear hR hM hac hat hw1 hbx hz1 hlen hlt
      by_cases hraw : act.raw = true
      · skip
        skip
        have hwr := HW1.out
        rw [hraw] at hwr
        replace HW1 := Lib.hid hwr
        clear hwr
        have HId : Hid (act.n < 9223372036854775808) := by have := HAk.out.2; unfold Hid; omega
        clear hact3
        by_cases h7 : act.act % 7 = 0
        · have hpub := publish_any (n := act.act / 7) HM1.out.has HT.out HM1.out.rm (by have := HL.out; omega) (by have := HM1.out.cnt; have := HL.out; omega) (by have := HM1.out.hV; have := HL.out; omega)
          unfold yv at hpub
          have hv40 := HM1.out.hV
          have HV40 := Lib.hid hv40
          have hb0 : V + 1 ≤ 1000000 := by have := HL.out; omega
          have hb1 : 0 ≤ V := hv40.1
          clear hv40
          go_wp2_with (first | rw [HW1.out] | fail)
          refine hpub.mono ?_
          rintro e w2 ⟨rfl, G2, m2, hp⟩
          obtain ⟨⟨x0', x1', x2', xz'⟩, -, hN⟩ := HM1.out.over hp.but hp.gro hp.has (hp.rm.more (by push_cast; omega)) (x' := x) (HM1.out.is.keep (fun z hz _ => ⟨hz.1.later hp.but.size hp.gro, hz.2⟩) hp.but.size (fun z hz hl => hp.but.block z hl (by have := hz.1.ne; simp; omega))) (V1 := V + 1 + act.act / 7) (by have := HV40.out; push_cast; omega) (by have := hp.cnt; omega) (Below.refl _ _)
          have hac := AcAt.over HAc.out HM1.out.has hp.but HLo.out
          obtain ⟨a0, a1, a2, a3, a4⟩ := hac
          simp only [Nat.zero_add] at a0 a1 a2 a3 a4
          have HN : Hid (LMid w B0 b c r zy zw R S P (i + 1) (i + 1) ids (.slice va n vc) G2 m2 (V + 1 + act.act / 7) A B x (w2.setCell ⟨zw, 0, none⟩ (.int .i64 (V + 1 + act.act / 7)))) := (hN _ ((But.refl _ _).set _ _) (V3.set0 ⟨x0', x1', x2', xz'⟩ _)).more (by omega)
          clear hpub hp hN y0 y1 y2 y3 x0 x1 x2 xz HM1
          go_wp2_with fail
          go_roundw
          case rel => exact ⟨i + 1, n, va, vc, by simp, by omega, rfl, hn, ids, HLen.out, G2, m2, _, A, B, x, HN.out⟩
          case measure => simp [intOf]; omega
        · have hdoes := does_any (K := fun z => z ≠ zw ∧ (Value.slice va n vc).ownBlock ≠ some z) HM1.out.has HM1.out.rm (by have := HL.out; omega) (by have := HM1.out.cnt; have := HL.out; omega) HM1.out.rg HM1.out.is (by have := HM1.out.hV; have := HL.out; omega) HId.out h7 ⟨hact1, hact2⟩
          rw [HM1.out.rm.al, HM1.out.rm.bl] at hdoes
          unfold yv Rs.v Ac.v at hdoes
          rw [hraw] at hdoes
          have h7' : ¬ (act.act % 7 = 0) := h7
          go_wp2_with (first | rw [HW1.out] | fail)
          refine hdoes.mono ?_
          rintro e w2 ⟨x', to, rfl, hd⟩
          obtain ⟨G2, m2, A2, B2, o1, o2, o3, o4, o5⟩ := hd.out
          have hb3 := (Below.refl w2.heap.size w2).alloc (Nat.le_refl _) (x'.obj V S.length P.length)
          obtain ⟨⟨x0', x1', x2', xz'⟩, -, hN⟩ := HM1.out.over hd.but o2 o1 (o3.more (by push_cast; omega)) (x' := x') (o4.keep (fun z hz hl => ⟨hz.1, by
            have h1 := HM1.out.lw.lt
            rcases hz.2 with h | h
            · exact h.2
            · exact ⟨by omega, fun e => by have := (HM1.out.own.lt z e).2; omega⟩⟩) (Nat.le_refl _) (fun _ _ _ => rfl)) (V1 := V) (by have := HM1.out.hV; push_cast; omega) (by omega) hb3
          have HLo2 : Hid (-1 ≤ to ∧ to ≤ 100000000) := ⟨hd.lo, hd.hi⟩
          obtain ⟨w3, hw3⟩ : ∃ W, W = w2.alloc (x'.obj V S.length P.length) := ⟨_, rfl⟩
          have v3 := V3.new w2 V (.slice x'.sa S.length x'.sc) (.slice x'.pa P.length x'.pc)
          rw [show w2.alloc (.cells #[.int .i64 V, .slice x'.sa S.length x'.sc, .slice x'.pa P.length x'.pc] 44) = w3 from hw3.symm] at v3
          obtain ⟨t0, t1, t2, tz⟩ := v3
          rw [← hw3] at x0' x1' x2' xz' hN
          obtain ⟨w4, hw4⟩ : ∃ W, W = put3 w3 zw V (.slice x'.sa S.length x'.sc) (.slice x'.pa P.length x'.pc) := ⟨_, rfl⟩
          have HN0 : Hid (LMid w B0 b c r zy zw R S P (i + 1) i ids (.slice va n vc) G2 m2 V A2 B2 x' w4) := hN _ (by rw [hw4]; exact But.put3 _ _ _ _ _) (by rw [hw4]; exact V3.put ⟨x0', x1', x2', xz'⟩ _ _ _)
          unfold Rs.obj at hw3
          unfold put3 at hw4
          have HW3 := Lib.hid hw3.symm
          have HW4 := Lib.hid hw4.symm
          clear hdoes hd o1 o2 o3 o4 o5 hb3 hN y0 y1 y2 y3 x0 x1 x2 xz HM1 hw3 hw4 h7'
          by_cases hto : 0 ≤ to
          · go_wp2_with (first
              | rw [HW3.out]
              | rw [HW4.out]
              | (at_builtin
                 refine append1 rfl (.tmp 142) (.tmp 144) rfl B0 (.slice va n vc) ids to rfl (HN0.out.own.below ((Below.refl _ _).alloc (Nat.le_refl _) _)) w4.heap.size 1 rfl (alloc_cell _ _ _ 0 _ rfl) (by have := HLen.out; omega) (by have := HN0.out.bs; simp; omega) ?_
                 intro v' w6 g1 g2 g3
                 have hn6 := HN0.out.tell ((Below.refl w4.heap.size w4).alloc (Nat.le_refl _) (.cells #[.int .i64 to] 3)) g1 g2 g3 HLo2.out
                 obtain ⟨va', vc', ev', -⟩ := g1.see
                 have hl6 : (ids ++ [to]).length = n + 1 := by simp [HLen.out]
                 rw [hl6] at ev'
                 subst ev'
                 have HN := Lib.hid hn6
                 have HLen2 := Lib.hid hl6
                 clear g1 g2 g3 hn6 hl6)
              | fail)
            go_roundw
            case rel => exact ⟨i + 1, n + 1, va', vc', by simp, by omega, rfl, by have := HN.out.len; have := HLen2.out; omega, ids ++ [to], HLen2.out, G2, m2, V, A2, B2, x', HN.out⟩
            case measure => simp [intOf]; omega
          · have hto2 : to < 0 := by omega
            have HN := Lib.hid (HN0.out.more (n' := i + 1) (by omega))
            clear HN0 hto
            go_wp2_with (first | rw [HW3.out] | rw [HW4.out] | fail)
            go_roundw
            case rel => exact ⟨i + 1, n, va, vc, by simp, by omega, rfl, hn, ids, HLen.out, G2, m2, V, A2, B2, x', HN.out⟩
            case measure => simp [intOf]; omega
      · have hraw2 : act.raw = false := by simpa using hraw
        clear hraw
        by_cases hn0 : n = 0
        · have hnn : ¬ (0 : Int) < (n : Int) := by omega
          clear hn0
          skip
          have hwr := HW1.out
          rw [hraw2] at hwr
          replace HW1 := Lib.hid hwr
          clear hwr
          have HId : Hid (act.n < 9223372036854775808) := by have := HAk.out.2; unfold Hid; omega
          clear hact3
          by_cases h7 : act.act % 7 = 0
          · have hpub := publish_any (n := act.act / 7) HM1.out.has HT.out HM1.out.rm (by have := HL.out; omega) (by have := HM1.out.cnt; have := HL.out; omega) (by have := HM1.out.hV; have := HL.out; omega)
            unfold yv at hpub
            have hv40 := HM1.out.hV
            have HV40 := Lib.hid hv40
            have hb0 : V + 1 ≤ 1000000 := by have := HL.out; omega
            have hb1 : 0 ≤ V := hv40.1
            clear hv40
            go_wp2_with (first | rw [HW1.out] | fail)
            refine hpub.mono ?_
            rintro e w2 ⟨rfl, G2, m2, hp⟩
            obtain ⟨⟨x0', x1', x2', xz'⟩, -, hN⟩ := HM1.out.over hp.but hp.gro hp.has (hp.rm.more (by push_cast; omega)) (x' := x) (HM1.out.is.keep (fun z hz _ => ⟨hz.1.later hp.but.size hp.gro, hz.2⟩) hp.but.size (fun z hz hl => hp.but.block z hl (by have := hz.1.ne; simp; omega))) (V1 := V + 1 + act.act / 7) (by have := HV40.out; push_cast; omega) (by have := hp.cnt; omega) (Below.refl _ _)
            have hac := AcAt.over HAc.out HM1.out.has hp.but HLo.out
            obtain ⟨a0, a1, a2, a3, a4⟩ := hac
            simp only [Nat.zero_add] at a0 a1 a2 a3 a4
            have HN : Hid (LMid w B0 b c r zy zw R S P (i + 1) (i + 1) ids (.slice va n vc) G2 m2 (V + 1 + act.act / 7) A B x (w2.setCell ⟨zw, 0, none⟩ (.int .i64 (V + 1 + act.act / 7)))) := (hN _ ((But.refl _ _).set _ _) (V3.set0 ⟨x0', x1', x2', xz'⟩ _)).more (by omega)
            clear hpub hp hN y0 y1 y2 y3 x0 x1 x2 xz HM1
            go_wp2_with fail
            go_roundw
            case rel => exact ⟨i + 1, n, va, vc, by simp, by omega, rfl, hn, ids, HLen.out, G2, m2, _, A, B, x, HN.out⟩
            case measure => simp [intOf]; omega
          · have hdoes := does_any (K := fun z => z ≠ zw ∧ (Value.slice va n vc).ownBlock ≠ some z) HM1.out.has HM1.out.rm (by have := HL.out; omega) (by have := HM1.out.cnt; have := HL.out; omega) HM1.out.rg HM1.out.is (by have := HM1.out.hV; have := HL.out; omega) HId.out h7 ⟨hact1, hact2⟩
            rw [HM1.out.rm.al, HM1.out.rm.bl] at hdoes
            unfold yv Rs.v Ac.v at hdoes
            rw [hraw2] at hdoes
            have h7' : ¬ (act.act % 7 = 0) := h7
            go_wp2_with (first | rw [HW1.out] | fail)
            refine hdoes.mono ?_
            rintro e w2 ⟨x', to, rfl, hd⟩
            obtain ⟨G2, m2, A2, B2, o1, o2, o3, o4, o5⟩ := hd.out
            have hb3 := (Below.refl w2.heap.size w2).alloc (Nat.le_refl _) (x'.obj V S.length P.length)
            obtain ⟨⟨x0', x1', x2', xz'⟩, -, hN⟩ := HM1.out.over hd.but o2 o1 (o3.more (by push_cast; omega)) (x' := x') (o4.keep (fun z hz hl => ⟨hz.1, by
              have h1 := HM1.out.lw.lt
              rcases hz.2 with h | h
              · exact h.2
              · exact ⟨by omega, fun e => by have := (HM1.out.own.lt z e).2; omega⟩⟩) (Nat.le_refl _) (fun _ _ _ => rfl)) (V1 := V) (by have := HM1.out.hV; push_cast; omega) (by omega) hb3
            have HLo2 : Hid (-1 ≤ to ∧ to ≤ 100000000) := ⟨hd.lo, hd.hi⟩
            obtain ⟨w3, hw3⟩ : ∃ W, W = w2.alloc (x'.obj V S.length P.length) := ⟨_, rfl⟩
            have v3 := V3.new w2 V (.slice x'.sa S.length x'.sc) (.slice x'.pa P.length x'.pc)
            rw [show w2.alloc (.cells #[.int .i64 V, .slice x'.sa S.length x'.sc, .slice x'.pa P.length x'.pc] 44) = w3 from hw3.symm] at v3
            obtain ⟨t0, t1, t2, tz⟩ := v3
            rw [← hw3] at x0' x1' x2' xz' hN
            obtain ⟨w4, hw4⟩ : ∃ W, W = put3 w3 zw V (.slice x'.sa S.length x'.sc) (.slice x'.pa P.length x'.pc) := ⟨_, rfl⟩
            have HN0 : Hid (LMid w B0 b c r zy zw R S P (i + 1) i ids (.slice va n vc) G2 m2 V A2 B2 x' w4) := hN _ (by rw [hw4]; exact But.put3 _ _ _ _ _) (by rw [hw4]; exact V3.put ⟨x0', x1', x2', xz'⟩ _ _ _)
            unfold Rs.obj at hw3
            unfold put3 at hw4
            have HW3 := Lib.hid hw3.symm
            have HW4 := Lib.hid hw4.symm
            clear hdoes hd o1 o2 o3 o4 o5 hb3 hN y0 y1 y2 y3 x0 x1 x2 xz HM1 hw3 hw4 h7'
            by_cases hto : 0 ≤ to
            · go_wp2_with (first
                | rw [HW3.out]
                | rw [HW4.out]
                | (at_builtin
                   refine append1 rfl (.tmp 142) (.tmp 144) rfl B0 (.slice va n vc) ids to rfl (HN0.out.own.below ((Below.refl _ _).alloc (Nat.le_refl _) _)) w4.heap.size 1 rfl (alloc_cell _ _ _ 0 _ rfl) (by have := HLen.out; omega) (by have := HN0.out.bs; simp; omega) ?_
                   intro v' w6 g1 g2 g3
                   have hn6 := HN0.out.tell ((Below.refl w4.heap.size w4).alloc (Nat.le_refl _) (.cells #[.int .i64 to] 3)) g1 g2 g3 HLo2.out
                   obtain ⟨va', vc', ev', -⟩ := g1.see
                   have hl6 : (ids ++ [to]).length = n + 1 := by simp [HLen.out]
                   rw [hl6] at ev'
                   subst ev'
                   have HN := Lib.hid hn6
                   have HLen2 := Lib.hid hl6
                   clear g1 g2 g3 hn6 hl6)
                | fail)
              go_roundw
              case rel => exact ⟨i + 1, n + 1, va', vc', by simp, by omega, rfl, by have := HN.out.len; have := HLen2.out; omega, ids ++ [to], HLen2.out, G2, m2, V, A2, B2, x', HN.out⟩
              case measure => simp [intOf]; omega
            · have hto2 : to < 0 := by omega
              have HN := Lib.hid (HN0.out.more (n' := i + 1) (by omega))
              clear HN0 hto
              go_wp2_with (first | rw [HW3.out] | rw [HW4.out] | fail)
              go_roundw
              case rel => exact ⟨i + 1, n, va, vc, by simp, by omega, rfl, hn, ids, HLen.out, G2, m2, V, A2, B2, x', HN.out⟩
              case measure => simp [intOf]; omega
        · have hnn : (0 : Int) < (n : Int) := by omega
          by_cases hp0 : act.n < 0
          · skip
            skip
            have hwr := HW1.out
            rw [hraw2] at hwr
            replace HW1 := Lib.hid hwr
            clear hwr
            have HId : Hid (act.n < 9223372036854775808) := by have := HAk.out.2; unfold Hid; omega
            clear hact3 hn0
            by_cases h7 : act.act % 7 = 0
            · have hpub := publish_any (n := act.act / 7) HM1.out.has HT.out HM1.out.rm (by have := HL.out; omega) (by have := HM1.out.cnt; have := HL.out; omega) (by have := HM1.out.hV; have := HL.out; omega)
              unfold yv at hpub
              have hv40 := HM1.out.hV
              have HV40 := Lib.hid hv40
              have hb0 : V + 1 ≤ 1000000 := by have := HL.out; omega
              have hb1 : 0 ≤ V := hv40.1
              clear hv40
              go_wp2_with (first | rw [HW1.out] | fail)
              refine hpub.mono ?_
              rintro e w2 ⟨rfl, G2, m2, hp⟩
              obtain ⟨⟨x0', x1', x2', xz'⟩, -, hN⟩ := HM1.out.over hp.but hp.gro hp.has (hp.rm.more (by push_cast; omega)) (x' := x) (HM1.out.is.keep (fun z hz _ => ⟨hz.1.later hp.but.size hp.gro, hz.2⟩) hp.but.size (fun z hz hl => hp.but.block z hl (by have := hz.1.ne; simp; omega))) (V1 := V + 1 + act.act / 7) (by have := HV40.out; push_cast; omega) (by have := hp.cnt; omega) (Below.refl _ _)
              have hac := AcAt.over HAc.out HM1.out.has hp.but HLo.out
              obtain ⟨a0, a1, a2, a3, a4⟩ := hac
              simp only [Nat.zero_add] at a0 a1 a2 a3 a4
              have HN : Hid (LMid w B0 b c r zy zw R S P (i + 1) (i + 1) ids (.slice va n vc) G2 m2 (V + 1 + act.act / 7) A B x (w2.setCell ⟨zw, 0, none⟩ (.int .i64 (V + 1 + act.act / 7)))) := (hN _ ((But.refl _ _).set _ _) (V3.set0 ⟨x0', x1', x2', xz'⟩ _)).more (by omega)
              clear hpub hp hN y0 y1 y2 y3 x0 x1 x2 xz HM1
              go_wp2_with fail
              go_roundw
              case rel => exact ⟨i + 1, n, va, vc, by simp, by omega, rfl, hn, ids, HLen.out, G2, m2, _, A, B, x, HN.out⟩
              case measure => simp [intOf]; omega
            · have hdoes := does_any (K := fun z => z ≠ zw ∧ (Value.slice va n vc).ownBlock ≠ some z) HM1.out.has HM1.out.rm (by have := HL.out; omega) (by have := HM1.out.cnt; have := HL.out; omega) HM1.out.rg HM1.out.is (by have := HM1.out.hV; have := HL.out; omega) HId.out h7 ⟨hact1, hact2⟩
              rw [HM1.out.rm.al, HM1.out.rm.bl] at hdoes
              unfold yv Rs.v Ac.v at hdoes
              rw [hraw2] at hdoes
              have h7' : ¬ (act.act % 7 = 0) := h7
              go_wp2_with (first | rw [HW1.out] | fail)
              refine hdoes.mono ?_
              rintro e w2 ⟨x', to, rfl, hd⟩
              obtain ⟨G2, m2, A2, B2, o1, o2, o3, o4, o5⟩ := hd.out
              have hb3 := (Below.refl w2.heap.size w2).alloc (Nat.le_refl _) (x'.obj V S.length P.length)
              obtain ⟨⟨x0', x1', x2', xz'⟩, -, hN⟩ := HM1.out.over hd.but o2 o1 (o3.more (by push_cast; omega)) (x' := x') (o4.keep (fun z hz hl => ⟨hz.1, by
                have h1 := HM1.out.lw.lt
                rcases hz.2 with h | h
                · exact h.2
                · exact ⟨by omega, fun e => by have := (HM1.out.own.lt z e).2; omega⟩⟩) (Nat.le_refl _) (fun _ _ _ => rfl)) (V1 := V) (by have := HM1.out.hV; push_cast; omega) (by omega) hb3
              have HLo2 : Hid (-1 ≤ to ∧ to ≤ 100000000) := ⟨hd.lo, hd.hi⟩
              obtain ⟨w3, hw3⟩ : ∃ W, W = w2.alloc (x'.obj V S.length P.length) := ⟨_, rfl⟩
              have v3 := V3.new w2 V (.slice x'.sa S.length x'.sc) (.slice x'.pa P.length x'.pc)
              rw [show w2.alloc (.cells #[.int .i64 V, .slice x'.sa S.length x'.sc, .slice x'.pa P.length x'.pc] 44) = w3 from hw3.symm] at v3
              obtain ⟨t0, t1, t2, tz⟩ := v3
              rw [← hw3] at x0' x1' x2' xz' hN
              obtain ⟨w4, hw4⟩ : ∃ W, W = put3 w3 zw V (.slice x'.sa S.length x'.sc) (.slice x'.pa P.length x'.pc) := ⟨_, rfl⟩
              have HN0 : Hid (LMid w B0 b c r zy zw R S P (i + 1) i ids (.slice va n vc) G2 m2 V A2 B2 x' w4) := hN _ (by rw [hw4]; exact But.put3 _ _ _ _ _) (by rw [hw4]; exact V3.put ⟨x0', x1', x2', xz'⟩ _ _ _)
              unfold Rs.obj at hw3
              unfold put3 at hw4
              have HW3 := Lib.hid hw3.symm
              have HW4 := Lib.hid hw4.symm
              clear hdoes hd o1 o2 o3 o4 o5 hb3 hN y0 y1 y2 y3 x0 x1 x2 xz HM1 hw3 hw4 h7'
              by_cases hto : 0 ≤ to
              · go_wp2_with (first
                  | rw [HW3.out]
                  | rw [HW4.out]
                  | (at_builtin
                     refine append1 rfl (.tmp 142) (.tmp 144) rfl B0 (.slice va n vc) ids to rfl (HN0.out.own.below ((Below.refl _ _).alloc (Nat.le_refl _) _)) w4.heap.size 1 rfl (alloc_cell _ _ _ 0 _ rfl) (by have := HLen.out; omega) (by have := HN0.out.bs; simp; omega) ?_
                     intro v' w6 g1 g2 g3
                     have hn6 := HN0.out.tell ((Below.refl w4.heap.size w4).alloc (Nat.le_refl _) (.cells #[.int .i64 to] 3)) g1 g2 g3 HLo2.out
                     obtain ⟨va', vc', ev', -⟩ := g1.see
                     have hl6 : (ids ++ [to]).length = n + 1 := by simp [HLen.out]
                     rw [hl6] at ev'
                     subst ev'
                     have HN := Lib.hid hn6
                     have HLen2 := Lib.hid hl6
                     clear g1 g2 g3 hn6 hl6)
                  | fail)
                go_roundw
                case rel => exact ⟨i + 1, n + 1, va', vc', by simp, by omega, rfl, by have := HN.out.len; have := HLen2.out; omega, ids ++ [to], HLen2.out, G2, m2, V, A2, B2, x', HN.out⟩
                case measure => simp [intOf]; omega
              · have hto2 : to < 0 := by omega
                have HN := Lib.hid (HN0.out.more (n' := i + 1) (by omega))
                clear HN0 hto
                go_wp2_with (first | rw [HW3.out] | rw [HW4.out] | fail)
                go_roundw
                case rel => exact ⟨i + 1, n, va, vc, by simp, by omega, rfl, hn, ids, HLen.out, G2, m2, V, A2, B2, x', HN.out⟩
                case measure => simp [intOf]; omega
          · have n0 : 0 ≤ act.n := by omega
            have n1 : (0 : Int) < (n : Int) := by omega
            obtain ⟨q, hq, e1⟩ : ∃ q : Nat, q < n ∧ act.n % (n : Int) = (q : Int) := by
              have h1 := Int.emod_nonneg act.n (b := (n : Int)) (by omega)
              have h2 := Int.emod_lt_of_pos act.n (b := (n : Int)) (by omega)
              exact ⟨(act.n % (n : Int)).toNat, by omega, by omega⟩
            have E1 := Lib.hid e1
            obtain ⟨idv, hidv⟩ : ∃ idv, ids[q]? = some idv := ⟨_, List.getElem?_eq_getElem (by rw [HLen.out]; exact hq)⟩
            have hidb := HM1.out.idb idv (List.mem_of_getElem? hidv)
            obtain ⟨ga, ega, kid⟩ : ∃ ga, va = some ⟨ga, 0, none⟩ ∧ w1.cell? ⟨ga, q, none⟩ = some (.int .i64 idv) := by
              obtain ⟨a', c', e', h6⟩ := HM1.out.own.see
              cases e'
              rcases h6 with e | ⟨g6, e, -, h7⟩
              · rw [e] at hidv; simp at hidv
              · exact ⟨g6, e, h7 q idv hidv⟩
            subst ega
            have q1 : (q : Int) < (n : Int) := by omega
            have hwr := HW1.out
            rw [hraw2] at hwr
            replace HW1 := Lib.hid hwr
            clear hwr
            have HId : Hid (idv < 9223372036854775808) := by unfold Hid; omega
            clear hact3 e1 hidv hidb hp0 hn0
            by_cases h7 : act.act % 7 = 0
            · have hpub := publish_any (n := act.act / 7) HM1.out.has HT.out HM1.out.rm (by have := HL.out; omega) (by have := HM1.out.cnt; have := HL.out; omega) (by have := HM1.out.hV; have := HL.out; omega)
              unfold yv at hpub
              have hv40 := HM1.out.hV
              have HV40 := Lib.hid hv40
              have hb0 : V + 1 ≤ 1000000 := by have := HL.out; omega
              have hb1 : 0 ≤ V := hv40.1
              clear hv40
              go_wp2_with (first | rw [HW1.out] | rw [E1.out] | fail)
              refine hpub.mono ?_
              rintro e w2 ⟨rfl, G2, m2, hp⟩
              obtain ⟨⟨x0', x1', x2', xz'⟩, -, hN⟩ := HM1.out.over hp.but hp.gro hp.has (hp.rm.more (by push_cast; omega)) (x' := x) (HM1.out.is.keep (fun z hz _ => ⟨hz.1.later hp.but.size hp.gro, hz.2⟩) hp.but.size (fun z hz hl => hp.but.block z hl (by have := hz.1.ne; simp; omega))) (V1 := V + 1 + act.act / 7) (by have := HV40.out; push_cast; omega) (by have := hp.cnt; omega) (Below.refl _ _)
              have hac := AcAt.over HAc.out HM1.out.has hp.but HLo.out
              obtain ⟨a0, a1, a2, a3, a4⟩ := hac
              simp only [Nat.zero_add] at a0 a1 a2 a3 a4
              have HN : Hid (LMid w B0 b c r zy zw R S P (i + 1) (i + 1) ids (.slice (some ⟨ga, 0, none⟩) n vc) G2 m2 (V + 1 + act.act / 7) A B x (w2.setCell ⟨zw, 0, none⟩ (.int .i64 (V + 1 + act.act / 7)))) := (hN _ ((But.refl _ _).set _ _) (V3.set0 ⟨x0', x1', x2', xz'⟩ _)).more (by omega)
              clear hpub hp hN y0 y1 y2 y3 x0 x1 x2 xz HM1
              go_wp2_with fail
              go_roundw
              case rel => exact ⟨i + 1, n, some ⟨ga, 0, none⟩, vc, by simp, by omega, rfl, hn, ids, HLen.out, G2, m2, _, A, B, x, HN.out⟩
              case measure => simp [intOf]; omega
            · have hdoes := does_any (K := fun z => z ≠ zw ∧ (Value.slice (some ⟨ga, 0, none⟩) n vc).ownBlock ≠ some z) HM1.out.has HM1.out.rm (by have := HL.out; omega) (by have := HM1.out.cnt; have := HL.out; omega) HM1.out.rg HM1.out.is (by have := HM1.out.hV; have := HL.out; omega) HId.out h7 ⟨hact1, hact2⟩
              rw [HM1.out.rm.al, HM1.out.rm.bl] at hdoes
              unfold yv Rs.v Ac.v at hdoes
              rw [hraw2] at hdoes
              have h7' : ¬ (act.act % 7 = 0) := h7
              go_wp2_with (first | rw [HW1.out] | rw [E1.out] | fail)
              refine hdoes.mono ?_
              rintro e w2 ⟨x', to, rfl, hd⟩
              obtain ⟨G2, m2, A2, B2, o1, o2, o3, o4, o5⟩ := hd.out
              have hb3 := (Below.refl w2.heap.size w2).alloc (Nat.le_refl _) (x'.obj V S.length P.length)
              obtain ⟨⟨x0', x1', x2', xz'⟩, -, hN⟩ := HM1.out.over hd.but o2 o1 (o3.more (by push_cast; omega)) (x' := x') (o4.keep (fun z hz hl => ⟨hz.1, by
                have h1 := HM1.out.lw.lt
                rcases hz.2 with h | h
                · exact h.2
                · exact ⟨by omega, fun e => by have := (HM1.out.own.lt z e).2; omega⟩⟩) (Nat.le_refl _) (fun _ _ _ => rfl)) (V1 := V) (by have := HM1.out.hV; push_cast; omega) (by omega) hb3
              have HLo2 : Hid (-1 ≤ to ∧ to ≤ 100000000) := ⟨hd.lo, hd.hi⟩
              obtain ⟨w3, hw3⟩ : ∃ W, W = w2.alloc (x'.obj V S.length P.length) := ⟨_, rfl⟩
              have v3 := V3.new w2 V (.slice x'.sa S.length x'.sc) (.slice x'.pa P.length x'.pc)
              rw [show w2.alloc (.cells #[.int .i64 V, .slice x'.sa S.length x'.sc, .slice x'.pa P.length x'.pc] 44) = w3 from hw3.symm] at v3
              obtain ⟨t0, t1, t2, tz⟩ := v3
              rw [← hw3] at x0' x1' x2' xz' hN
              obtain ⟨w4, hw4⟩ : ∃ W, W = put3 w3 zw V (.slice x'.sa S.length x'.sc) (.slice x'.pa P.length x'.pc) := ⟨_, rfl⟩
              have HN0 : Hid (LMid w B0 b c r zy zw R S P (i + 1) i ids (.slice (some ⟨ga, 0, none⟩) n vc) G2 m2 V A2 B2 x' w4) := hN _ (by rw [hw4]; exact But.put3 _ _ _ _ _) (by rw [hw4]; exact V3.put ⟨x0', x1', x2', xz'⟩ _ _ _)
              unfold Rs.obj at hw3
              unfold put3 at hw4
              have HW3 := Lib.hid hw3.symm
              have HW4 := Lib.hid hw4.symm
              clear hdoes hd o1 o2 o3 o4 o5 hb3 hN y0 y1 y2 y3 x0 x1 x2 xz HM1 hw3 hw4 h7'
              by_cases hto : 0 ≤ to
              · go_wp2_with (first
                  | rw [HW3.out]
                  | rw [HW4.out]
                  | (at_builtin
                     refine append1 rfl (.tmp 142) (.tmp 144) rfl B0 (.slice (some ⟨ga, 0, none⟩) n vc) ids to rfl (HN0.out.own.below ((Below.refl _ _).alloc (Nat.le_refl _) _)) w4.heap.size 1 rfl (alloc_cell _ _ _ 0 _ rfl) (by have := HLen.out; omega) (by have := HN0.out.bs; simp; omega) ?_
                     intro v' w6 g1 g2 g3
                     have hn6 := HN0.out.tell ((Below.refl w4.heap.size w4).alloc (Nat.le_refl _) (.cells #[.int .i64 to] 3)) g1 g2 g3 HLo2.out
                     obtain ⟨va', vc', ev', -⟩ := g1.see
                     have hl6 : (ids ++ [to]).length = n + 1 := by simp [HLen.out]
                     rw [hl6] at ev'
                     subst ev'
                     have HN := Lib.hid hn6
                     have HLen2 := Lib.hid hl6
                     clear g1 g2 g3 hn6 hl6)
                  | fail)
                go_roundw
                case rel => exact ⟨i + 1, n + 1, va', vc', by simp, by omega, rfl, by have := HN.out.len; have := HLen2.out; omega, ids ++ [to], HLen2.out, G2, m2, V, A2, B2, x', HN.out⟩
                case measure => simp [intOf]; omega
              · have hto2 : to < 0 := by omega
                have HN := Lib.hid (HN0.out.more (n' := i + 1) (by omega))
                clear HN0 hto
                go_wp2_with (first | rw [HW3.out] | rw [HW4.out] | fail)
                go_roundw
                case rel => exact ⟨i + 1, n, some ⟨ga, 0, none⟩, vc, by simp, by omega, rfl, hn, ids, HLen.out, G2, m2, V, A2, B2, x', HN.out⟩
                case measure => simp [intOf]; omega
    · obtain rfl : i = L := by omega
      have HE := Lib.hid hM.below
      clear hR hM
      go_wp2_with fail
      go_ret
      exact ⟨rfl, HE.out⟩
theorem playsLaw (a : Int) (_ha : (Lit.int .i64 a).wf = true) (k : Int) (_hk : (Lit.int .i64 k).wf = true) (ad : Option Addr) (l : List Ac) (cap : Nat) {w : World} (hL : Acts w ad l) (hO : ActsOk l) (_W : World) (hT : TabAt w) : Calls Tryd.prog 3 #[.int .i64 a, .int .i64 k, .slice ad l.length cap] w fun e w' => e = .returned (.bool true) ∧ Below w.heap.size w w' :=
  plays_law w hT a k ad l.length cap l rfl hL hO
end Go.Proofs.YtgjkkbgdkdipgaaDoor
