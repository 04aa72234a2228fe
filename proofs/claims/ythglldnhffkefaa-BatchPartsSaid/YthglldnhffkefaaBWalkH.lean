/- What Parts answers of any entries and spans. Conditions: at most 1000000 entries, at most 1000 spans. -/
import Derived.Test.YthglldnhffkefaaBWalkG
namespace Go.Proofs.Ythglldnhffkefaa
open Go.RowKit Go.Op
set_option maxRecDepth 100000

theorem parts_step {L : List En} {r : List Sp} {i : Nat} (h : i < r.length) : partsL L (r.drop i) = withinL (fromL L r[i].lo) r[i] :: partsL ((fromL L r[i].lo).drop (wN (fromL L r[i].lo) r[i])) (r.drop (i + 1)) := by
  rw [List.drop_eq_getElem_cons h]
  rfl
set_option maxHeartbeats 4000000 in
theorem parts_any (a : Option Addr) (l : List En) (c : Nat) (sa : Option Addr) (r : List Sp) (sc : Nat) (w : World) (hl : l.length ≤ 1000000) (hr : r.length ≤ 1000) (hE : Ents w a l) (hc : a = none → c = 0) (hS : Sps w sa r) :
    Calls Try.prog 16 #[.slice a l.length c, .slice sa r.length sc] w fun e w' => ∃ gp, e = .returned (.slice (some ⟨gp, 0, none⟩) r.length r.length) ∧ PRow w.heap.size w' gp r.length (partsL (sortL l) r) ∧ Below w.heap.size w w' := by
  have hso := sorted_any a l c w hl hE hc
  have HSP := Lib.hid hS
  have HSL := Lib.hid (sort_length l)
  clear hE hc hS
  go_enter Try.func16, Try.ntmps16
  go_wp2_with fail
  refine hso.mono ?_
  rintro e w1 ⟨v, rfl, ho, _, b1⟩
  obtain ⟨la0, lc0, rfl, hcut0, _, _⟩ := ho.sl
  obtain ⟨w2, hmk, hp2, b2⟩ := made_prow r.length hr w1
  have HB2 := Lib.hid (b1.trans (b2.mono b1.size))
  have HC2 := Lib.hid (hcut0.below b2)
  have HP2 := Lib.hid hp2
  have HF2 : Hid (∀ p, la0 = some p → p.block ≠ w1.heap.size) := Lib.hid (fun p hp => by
    have hcl := hcut0.none
    rcases ho.2 with ⟨e, _⟩ | ⟨g, cap, cur, e, _, hg, _⟩
    · simp only [Value.slice.injEq] at e
      rw [e.1] at hp
      cases hp
    · simp only [Value.slice.injEq] at e
      rw [e.1] at hp
      cases hp
      have := heap_lt hg
      show g ≠ w1.heap.size
      omega)
  obtain ⟨gp, hgp⟩ : ∃ gp, gp = w1.heap.size := ⟨_, rfl⟩
  have HBS : Hid (w.heap.size ≤ gp) := Lib.hid (by rw [hgp]; exact b1.size)
  rw [← hgp] at hmk HP2 HF2
  have HSL2 := HSL
  clear ho b1 b2 hp2 hcut0 hso
  rw [HSL.out]
  have HG := Lib.hid hgp
  clear hgp
  go_wp2
  go_loopw [5, 16] (fun lv iv wr => ∃ (i m : Nat) (L : List En) (la : Option Addr) (lc : Nat) (done : List (List En)), iv = .int .i64 (i : Int) ∧ lv = .slice la m lc ∧ i ≤ r.length ∧ Hid (L.length = m) ∧ m ≤ 1000000 ∧ Hid (done.length = i) ∧ Hid (done ++ partsL L (r.drop i) = partsL (sortL l) r) ∧ Hid (Cut wr la L lc) ∧ Hid (∀ p, la = some p → p.block ≠ gp) ∧ Hid (PRow gp wr gp r.length done) ∧ Hid (Below w.heap.size w wr)) (fun _ iv _ => r.length - (intOf iv).toNat)
  case atStart => exact ⟨0, l.length, sortL l, la0, lc0, [], rfl, rfl, by omega, HSL, hl, Lib.hid rfl, Lib.hid rfl, HC2, HF2, HP2, HB2⟩
  case round =>
    obtain ⟨i, m, L, la, lc, done, rfl, rfl, hir, HM, hm6, HDL, HDN, HC, HF, HP, HB⟩ := hrel
    clear HC2 HF2 HP2 HB2 hmk
    by_cases h1 : i < r.length
    · have i1 : (i : Int) < (r.length : Int) := by omega
      obtain ⟨sb, so, rfl, hsb0, hs0⟩ := HSP.out.at h1
      have hs := hs0.keep HB.out hsb0
      have HST := Lib.hid (parts_step (L := L) h1)
      generalize r[i] = s at hs HST
      obtain ⟨lo, hi, all⟩ := s
      obtain ⟨s1, s2, s3⟩ := hs
      simp only at s1 s2 s3 HST
      obtain ⟨w5, hw5⟩ : ∃ w5, w5 = wr.alloc (.cells #[.string lo, .string hi, .bool all] 44) := ⟨_, rfl⟩
      have b5 : Below wr.heap.size wr w5 := by rw [hw5]; exact (Below.refl _ _).alloc (Nat.le_refl _) _
      have k1 : w5.cell? ⟨wr.heap.size, 0, none⟩ = some (.string lo) := by rw [hw5]; simp
      have k2 : w5.cell? ⟨wr.heap.size, 1, none⟩ = some (.string hi) := by rw [hw5]; simp
      have k3 : w5.cell? ⟨wr.heap.size, 2, none⟩ = some (.bool all) := by rw [hw5]; simp
      have hfm := from_any la L lc lo w5 (HC.out.below b5)
      rw [HM.out] at hfm
      have HB5 := Lib.hid (HB.out.trans (b5.mono HB.out.size))
      have HP5 := Lib.hid (HP.out.below b5)
      have HW5 := Lib.hid hw5
      have hfl : (fromL L lo).length ≤ 1000000 := by unfold fromL; rw [List.length_drop]; have := HM.out; omega
      generalize fromL L lo = F at hfm HST hfl
      clear hw5 b5 hs0
      go_wp2_with fail
      rw [← HW5.out]
      refine hfm.mono ?_
      rintro e w5' ⟨⟨fa, fc, rfl, hfc, hfb⟩, rfl⟩
      have hwi := within_any fa F fc ⟨lo, hi, all⟩ w5 hfl hfc
      have hwl := within_length F ⟨lo, hi, all⟩
      have hwn := wN_le F ⟨lo, hi, all⟩
      generalize withinL F ⟨lo, hi, all⟩ = W at hwi HST hwl
      generalize hwx : wN F ⟨lo, hi, all⟩ = x at HST hwl hwn
      have HFC := Lib.hid hfc
      have HFB := Lib.hid hfb
      simp only [Sp.v] at hwi
      clear hfc hfb hfm hwx
      go_wp2_with fail
      refine hwi.mono ?_
      rintro e w6 ⟨v, rfl, ho6, b6⟩
      obtain ⟨va, vc, rfl, hv6, hvb, _⟩ := ho6.sl
      have HB6 := Lib.hid (HB5.out.trans (b6.mono HB5.out.size))
      have HP6 := Lib.hid (HP5.out.below b6)
      have HFC6 := Lib.hid (HFC.out.below b6)
      have hgl : gp < w5.heap.size := by obtain ⟨_, _, g2, _⟩ := HP5.out; exact g2
      have HVB : Hid (∀ p, va = some p → p.block ≠ gp) := Lib.hid (fun p hp => by have := hvb p hp; omega)
      obtain ⟨f1, f2⟩ := HP6.out.free (k := i) (by have := HDL.out; omega) h1
      have HN : Hid (PRow gp (w6.setCell ⟨gp, i, none⟩ (.slice va W.length vc)) gp r.length (done ++ [W])) := Lib.hid (by have := HP6.out.put (by have := HDL.out; omega) hv6 HVB.out; rwa [HDL.out] at this)
      have HFA : Hid (∀ p, fa = some p → p.block ≠ gp) := Lib.hid (fun p hp => by
        obtain ⟨q, hq, hb⟩ := HFB.out p hp
        rw [hb]
        exact HF.out q hq)
      have HCN : Hid (Cut (w6.setCell ⟨gp, i, none⟩ (.slice va W.length vc)) (dropA fa fc x) (F.drop x) (fc - x)) := Lib.hid (cut_off (HFC6.out.drop hwn) (fun p hp => by
        unfold dropA at hp
        obtain ⟨q, hq, rfl⟩ := Option.map_eq_some_iff.1 hp
        split
        · exact HFA.out q hq
        · exact HFA.out q hq))
      have HFN : Hid (∀ p, dropA fa fc x = some p → p.block ≠ gp) := Lib.hid (fun p hp => by
        unfold dropA at hp
        obtain ⟨q, hq, rfl⟩ := Option.map_eq_some_iff.1 hp
        split
        · exact HFA.out q hq
        · exact HFA.out q hq)
      have hsl : ∀ V, (Instr.sliceAt 25 (.slice fa F.length fc) (some (.int .i64 (W.length : Int))) none none).run Try.prog V = .ok (.slice (dropA fa fc x) (F.length - x) (fc - x)) V := fun V => by
        rw [hwl]
        exact slice_lo (.inl rfl) hwn HFC.out.len HFC.out.big HFC.out.none HFC.out.spot V
      have HBN : Hid (Below w.heap.size w (w6.setCell ⟨gp, i, none⟩ (.slice va W.length vc))) := Lib.hid (HB6.out.setCell (p := ⟨gp, i, none⟩) HBS.out _)
      have HDD : Hid ((done ++ [W]) ++ partsL (F.drop x) (r.drop (i + 1)) = partsL (sortL l) r) := Lib.hid (by rw [← HDN.out, HST.out]; simp)
      have hwl2 := Lib.hid hwl
      have k6 : (w6.setCell ⟨gp, i, none⟩ (.slice va W.length vc)).cell? ⟨gp, i, none⟩ = some (.slice va W.length vc) := World.cell?_setCell_same _ _ _ f1
      have HFL : Hid (F.length - x ≤ 1000000) := Lib.hid (by omega)
      have HFX : Hid ((F.drop x).length = F.length - x) := Lib.hid (by simp)
      have HDL2 : Hid ((done ++ [W]).length = i + 1) := Lib.hid (by have := HDL.out; simp; omega)
      clear ho6 b6 hv6 hvb hwi hwl
      clear s1 s2 s3 HB5 HP5 HW5 HST HFC HFB HP6 HFC6 HFA HVB HC HF HB HP HM HDN HDL hm6 hwn hfl
      go_wp2
      refine ⟨⟨i + 1, F.length - x, F.drop x, dropA fa fc x, fc - x, done ++ [W], by push_cast; rfl, rfl, by omega, HFX, HFL.out, HDL2, HDD, HCN, HFN, HN, HBN⟩, ?_⟩
      simp only [intOf]
      omega
    · obtain rfl : i = r.length := by omega
      have i1 : ¬ (r.length : Int) < (r.length : Int) := by omega
      have HE : Hid (done = partsL (sortL l) r) := Lib.hid (by have := HDN.out; rw [List.drop_length] at this; simpa [partsL] using this)
      go_wp2
      go_ret
      refine ⟨gp, rfl, ?_, HB.out⟩
      rw [← HE.out]
      obtain ⟨vs, g1, g2⟩ := HP.out
      obtain ⟨e1, e2⟩ := g1
      refine ⟨vs, ⟨e1, ?_⟩, g2⟩
      rcases e2 with e2 | ⟨g, cap, cur, e, b, cc⟩
      · exact .inl e2
      · exact .inr ⟨g, cap, cur, e, Nat.le_trans HBS.out b, cc⟩
end Go.Proofs.Ythglldnhffkefaa
