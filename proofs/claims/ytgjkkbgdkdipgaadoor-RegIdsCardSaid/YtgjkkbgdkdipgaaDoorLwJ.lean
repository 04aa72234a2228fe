/- RegIds's law. Condition: the library's table stands. -/
import Derived.Test.YtgjkkbgdkdipgaaDoorLwI
namespace Go.Proofs.YtgjkkbgdkdipgaaDoor
open Go.RowKit Go.Op
set_option maxRecDepth 100000

theorem HasE.base {w w1 w2 : World} {b c r : Nat} {G : List (Nat × List Sw)} {m : M} (h : HasE w1 b c r G w2 m) (hb : Below w.heap.size w w1) : HasE w b c r G w2 m := by
  obtain ⟨m0, h1, h2, h3, h4, h5⟩ := h
  exact ⟨m0, ⟨h1.at_, h1.ok, hb.trans (h1.below.mono hb.size), Nat.le_trans hb.size h1.hb, Nat.le_trans hb.size h1.hc, Nat.le_trans hb.size h1.hr⟩, h2, h3, h4, fun g l hg => let ⟨q1, q2, q3⟩ := h5 g l hg; ⟨q1, Nat.le_trans hb.size q2, q3⟩⟩
theorem HasE.rowge {w1 w2 : World} {b c r : Nat} {G : List (Nat × List Sw)} {m : M} (h : HasE w1 b c r G w2 m) : ∀ x, x ∈ G → w1.heap.size ≤ x.1 := by
  obtain ⟨m0, h1, h2, h3, h4, h5⟩ := h
  exact fun x hx => (h5 x.1 x.2 hx).2.1
theorem NumL.base {w w1 w2 : World} {b c r : Nat} {G : List (Nat × List Sw)} {ad : Option Addr} {l : List Int} (h : NumL w1 b c r G w2 ad l) (hb : w.heap.size ≤ w1.heap.size) : NumL w b c r G w2 ad l :=
  h.imp id fun ⟨g, e, hl, hc⟩ => ⟨g, e, ⟨hl.lt, Nat.le_trans hb hl.ge, hl.ne, hl.ng⟩, hc⟩
theorem RgL.base {w w1 w2 : World} {b c r : Nat} {G : List (Nat × List Sw)} {R : Rg} {S P : List Int} (h : RgL w1 b c r G w2 R S P) (hb : w.heap.size ≤ w1.heap.size) : RgL w b c r G w2 R S P := ⟨h.sn, h.pn, h.sf, h.pf, h.s.base hb, h.p.base hb⟩
theorem ent_32 (xs : Array Value) (w : World) : (callFunc 32 xs).run Tryd.prog w = .ok (.enter 32 xs) w := by kernel_rfl
theorem told_start (k : Nat) : Told (List.replicate k (0, -1)) [] [] :=
  ⟨rfl, List.nodup_nil, fun j id op h => by simp at h, by
    unfold nOpen
    rw [List.countP_replicate]
    simp⟩
set_option maxHeartbeats 2000000 in
theorem ids_law (w : World) (hT : TabAt w) (n8 : Nat) (h8 : n8 ≤ 255) (a0 : Option Addr) (L cap : Nat) (l : List Ac) (hl : l.length = L) (hacts : Acts w a0 l) (hok : ActsOk l) :
    Calls Tryd.prog 5 #[.int .u8 (n8 : Int), .slice a0 L cap] w fun e w' => e = .returned (.bool true) ∧ Below w.heap.size w w' := by
  obtain ⟨wa, hwa⟩ : ∃ W, W = w.alloc (.cells #[.slice a0 L cap] 22) := ⟨_, rfl⟩
  have hba : Below w.heap.size w wa := by rw [hwa]; exact (Below.refl _ _).alloc (Nat.le_refl _) _
  have ca : wa.cell? ⟨w.heap.size, 0, none⟩ = some (.slice a0 L cap) := by rw [hwa]; simp [go_sem]
  have hza : wa.heap.size = w.heap.size + 1 := by rw [hwa]; simp
  have haw := awake_any wa (hT.below hba)
  have a4 := as4_yes
  have hm := hmf1
  have HT := Lib.hid hT
  have HW := Lib.hid hwa.symm
  have HA := Lib.hid (⟨hba, hza, hacts, hok, hl⟩ : _ ∧ _ ∧ _ ∧ _ ∧ _)
  have q8 : (n8 : Int) ≤ 255 := by omega
  have en : ((n8 % 9 : Nat) : Int) = (n8 : Int) % 9 := by omega
  have HN := Lib.hid en
  clear hT hacts hok hl hba hwa en
  by_cases hL : L ≤ 150
  · have hL2 : (L : Int) ≤ 150 := by omega
    go_enter Tryd.func5, Tryd.ntmps5
    go_wp2_with (first | rw [HW.out] | fail)
    refine haw.mono ?_
    rintro e w1 ⟨rfl, hb1⟩
    have hb01 := HA.out.1.trans (hb1.mono HA.out.1.size)
    have hl1 := lay_any w1 (HT.out.below hb01) 1 (n8 % 9) (by decide) (by omega)
    rw [HN.out] at hl1
    have ca1 := (hb1.cell (p := ⟨w.heap.size, 0, none⟩) (by simp only; omega)).trans ca
    have HB1 := Lib.hid (⟨hb1, hb01⟩ : _ ∧ _)
    clear haw hb1 hb01
    go_wp2_with fail
    refine hl1.mono ?_
    rintro e w2 ⟨⟨b, c, r, G, R, S, P, m, rfl, hLd⟩, hb2⟩
    have hb3 := (Below.refl w2.heap.size w2).alloc (Nat.le_refl _) (yobj b R)
    have hE3 := hLd.has.later hb3
    have hy3 := ynew w2 b R
    have hsz1 := HB1.out.1.size
    obtain ⟨g1, g2, g3, g4⟩ := hLd.has.ge
    have ca2 := (hb2.cell (p := ⟨w.heap.size, 0, none⟩) (by simp only; have := HA.out.2.1; omega)).trans ca1
    have ca3 := (hb3.cell (p := ⟨w.heap.size, 0, none⟩) (by simp only; have := HA.out.2.1; have := hb2.size; omega)).trans ca2
    have hEw : HasE w b c r G (w2.alloc (yobj b R)) m := hE3.base HB1.out.2
    have hs2 := hb2.size
    have hs3 := hb3.size
    have la3 : LocM w b c r G (w2.alloc (yobj b R)) w.heap.size := ⟨by have := HA.out.2.1; omega, Nat.le_refl _, by have := HA.out.2.1; omega, fun x hx => by have := hLd.has.rowge x hx; have := HA.out.2.1; omega⟩
    have ly3 := hEw.ge
    have lyy : LocM w b c r G (w2.alloc (yobj b R)) w2.heap.size := (hLd.has.base HB1.out.2).fresh (yobj b R)
    have hrg3 := (hLd.rg.later hb3).base (w := w) (by have := HA.out.2.1; omega)
    have hdo := do_any (w2.alloc (yobj b R)) b 32 #[.pointer (some ⟨w.heap.size, 0, none⟩), .pointer (some ⟨w2.heap.size, 0, none⟩)] _ ent_32
      (ids1_any hEw (by rw [hLd.top]; exact hLd.rm) (told_start _) (by rw [hLd.pl]; omega) (by have := hLd.cnt; omega) hy3 lyy hrg3 a0 L cap l HA.out.2.2.2.2 hL HA.out.2.2.1 HA.out.2.2.2.1 ca3 la3)
    have HF : Hid (∀ w4, ButN [b, c, r] (w2.alloc (yobj b R)).heap.size (w2.alloc (yobj b R)) w4 → Below w.heap.size w w4) := fun w4 h4 => hEw.butBelow h4
    obtain ⟨y0, y1, y2, y3, -⟩ := hy3
    unfold yv
    unfold yobj at hdo HF y0 y1 y2 y3
    clear hl1 hLd hb2 hb3 hE3 hEw ca2 ca3 ca1 hsz1 g1 g2 g3 g4 hs2 hs3 la3 ly3 lyy hrg3
    generalize hw3 : w2.alloc (.cells #[.pointer (some ⟨b, 0, none⟩), .int .i64 R.top, .slice R.sa R.sn R.sc, .slice R.pa R.pn R.pc] 39) = w3 at *
    have HW3 := Lib.hid hw3
    clear hw3
    go_wp2_with (first | rw [HW3.out] | fail)
    refine hdo.mono ?_
    rintro e w4 ⟨u, rfl, rfl, hb⟩
    have HE := Lib.hid (HF.out w4 hb)
    clear hdo hb HF
    go_wp2
    go_ret
    exact ⟨rfl, HE.out⟩
  · have hL2 : ¬ (L : Int) ≤ 150 := by omega
    go_enter Tryd.func5, Tryd.ntmps5
    go_wp2_with (first | rw [HW.out] | fail)
    refine haw.mono ?_
    rintro e w1 ⟨rfl, hb1⟩
    have hb01 := HA.out.1.trans (hb1.mono HA.out.1.size)
    have haw2 := awake_any w1 (HT.out.below hb01)
    have ca1 := (hb1.cell (p := ⟨w.heap.size, 0, none⟩) (by simp only; omega)).trans ca
    have HB1 := Lib.hid hb01
    clear haw hb1 hb01
    go_wp2_with fail
    refine haw2.mono ?_
    rintro e w2 ⟨rfl, hb2⟩
    have HE := Lib.hid (HB1.out.trans (hb2.mono HB1.out.size))
    clear haw2 hb2 HB1
    go_wp2
    go_ret
    exact ⟨rfl, HE.out⟩
theorem idsLaw (a : Int) (ha : (Lit.int .u8 a).wf = true) (ad : Option Addr) (l : List Ac) (cap : Nat) {w : World} (hL : Acts w ad l) (hO : ActsOk l) (_W : World) (hT : TabAt w) : Calls Tryd.prog 5 #[.int .u8 a, .slice ad l.length cap] w fun e w' => e = .returned (.bool true) ∧ Below w.heap.size w w' := by
  obtain ⟨h0, h1⟩ := wf8 ha
  obtain ⟨n, rfl⟩ : ∃ n : Nat, a = (n : Int) := ⟨a.toNat, by omega⟩
  exact ids_law w hT n (by omega) ad l.length cap l rfl hL hO
end Go.Proofs.YtgjkkbgdkdipgaaDoor
