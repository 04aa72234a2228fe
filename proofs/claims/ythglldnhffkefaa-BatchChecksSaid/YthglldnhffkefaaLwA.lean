/- BatchChecks's law: at any entries it answers true. Condition: none but that the entries can be read. -/
import Derived.Test.YthglldnhffkefaaBWalkE
namespace Go.Proofs.Ythglldnhffkefaa
open Go.RowKit Go.Op
set_option maxRecDepth 100000

set_option maxHeartbeats 1000000 in
theorem checks_any (a : Option Addr) (l : List En) (c : Nat) (w : World) (hC : Cut w a l c) :
    Calls Try.prog 3 #[.slice a l.length c] w fun e w' => e = .returned (.bool true) ∧ Below w.heap.size w w' := by
  have HC := Lib.hid hC
  have haw := awake_any
  by_cases hf : FewE l
  · have HF : Hid (∀ w', Below w.heap.size w w' → Calls Try.prog 8 #[.slice a l.length c] w' fun e w2 => e = .returned (.int .i64 1) ∧ w' = w2) := Lib.hid (fun w' hb => by
      have := few_any a l c w' (HC.out.e.below hb)
      rwa [fewE_yes hf] at this)
    have hl : l.length ≤ 1000000 := by have := hf.1; omega
    have HO := Lib.hid (fun w' (hb : Below w.heap.size w w') => lawof_any a l c w' hl (HC.out.e.below hb))
    have HRC := Lib.hid (fun w' (hb : Below w.heap.size w w') => refcheck_any a l c w' hl (HC.out.below hb))
    have HRS := Lib.hid (fun w' (hb : Below w.heap.size w w') => refsorted_any a l c w' hl (fun e he => by have := (hf.2 e he).1; omega) (HC.out.e.below hb))
    have HSL := Lib.hid (sort_length l)
    obtain ⟨V, hV⟩ : ∃ V, V = errL l := ⟨_, rfl⟩
    rw [← hV] at HRC
    have hv : (V == V) = true := by simp
    have HV := Lib.hid hV
    clear hC hf hV
    go_enter Try.func3, Try.ntmps3
    go_wp2_with fail
    refine (haw _).mono ?_
    rintro e w1 ⟨rfl, b1⟩
    have hfe := HF.out w1 b1
    have HB1 := Lib.hid b1
    clear b1
    go_wp2_with fail
    refine hfe.mono ?_
    rintro e w1' ⟨rfl, rfl⟩
    have ho := HO.out w1 HB1.out
    clear hfe
    go_wp2_with fail
    refine ho.mono ?_
    rintro e w2 ⟨v, rfl, hown, b2⟩
    obtain ⟨xa, xc, rfl, hcut, _, _⟩ := hown.sl
    have HB2 := Lib.hid (HB1.out.trans (b2.mono HB1.out.size))
    have HX := Lib.hid hcut
    clear ho hown b2 hcut
    have hch : Calls Try.prog 10 #[.slice xa l.length xc] w2 fun e w' => e = .returned (.int .i64 V) ∧ Below w2.heap.size w2 w' := by
      have := check_any xa l xc w2 hl HX.out.e HX.out.none
      rwa [← HV.out] at this
    go_wp2_with fail
    refine hch.mono ?_
    rintro e w3 ⟨rfl, b3⟩
    have HB3 := Lib.hid (HB2.out.trans (b3.mono HB2.out.size))
    have HX3 := Lib.hid (HX.out.below b3)
    have hrc := HRC.out w3 HB3.out
    clear hch b3
    go_wp2_with fail
    refine hrc.mono ?_
    rintro e w4 ⟨rfl, b4⟩
    have HB4 := Lib.hid (HB3.out.trans (b4.mono HB3.out.size))
    have HX4 := Lib.hid (HX3.out.below b4)
    have hso := sorted_any xa l xc w4 hl HX4.out.e HX4.out.none
    clear hrc b4
    go_wp2_with fail
    refine hso.mono ?_
    rintro e w5 ⟨v, rfl, hs5, hn5, b5⟩
    obtain ⟨sa, sc, rfl, hsc, _, _⟩ := hs5.sl
    have HB5 := Lib.hid (HB4.out.trans (b5.mono HB4.out.size))
    have HX5 := Lib.hid (HX4.out.below b5)
    have HS5 := Lib.hid hsc
    have hrs := HRS.out w5 HB5.out
    clear hso b5 hs5 hn5 hsc
    go_wp2_with fail
    refine hrs.mono ?_
    rintro e w6 ⟨v, rfl, hs6, b6⟩
    obtain ⟨ra, rc, rfl, hrc, _, _⟩ := hs6.sl
    have HB6 := Lib.hid (HB5.out.trans (b6.mono HB5.out.size))
    have HX6 := Lib.hid (HX5.out.below b6)
    have hsm := same_any sa ra (sortL l) sc rc w6 (by rw [HSL.out]; exact hl) (HS5.out.below b6).e hrc.e
    clear hrs b6 hs6 hrc
    go_wp2_with fail
    refine hsm.mono ?_
    rintro e w7 ⟨rfl, b7⟩
    have HB7 := Lib.hid (HB6.out.trans (b7.mono HB6.out.size))
    have hsm2 := same_any xa a l xc c w7 hl (HX6.out.below b7).e (HC.out.below HB7.out).e
    clear hsm b7
    go_wp2_with fail
    refine hsm2.mono ?_
    rintro e w8 ⟨rfl, b8⟩
    have HB8 := Lib.hid (HB7.out.trans (b8.mono HB7.out.size))
    clear b8
    go_wp2
    go_ret
    exact ⟨rfl, HB8.out⟩
  · have HF : Hid (∀ w', Below w.heap.size w w' → Calls Try.prog 8 #[.slice a l.length c] w' fun e w2 => e = .returned (.int .i64 0) ∧ w' = w2) := Lib.hid (fun w' hb => by
      have := few_any a l c w' (HC.out.e.below hb)
      rwa [fewE_no hf] at this)
    clear hC hf
    go_enter Try.func3, Try.ntmps3
    go_wp2_with fail
    refine (haw _).mono ?_
    rintro e w1 ⟨rfl, b1⟩
    have hfe := HF.out w1 b1
    have HB1 := Lib.hid b1
    clear b1
    go_wp2_with fail
    refine hfe.mono ?_
    rintro e w1' ⟨rfl, rfl⟩
    clear hfe
    go_wp2_with fail
    refine (haw _).mono ?_
    rintro e w2 ⟨rfl, b2⟩
    have HB2 := Lib.hid (HB1.out.trans (b2.mono HB1.out.size))
    clear b2
    go_wp2
    go_ret
    exact ⟨rfl, HB2.out⟩
end Go.Proofs.Ythglldnhffkefaa
