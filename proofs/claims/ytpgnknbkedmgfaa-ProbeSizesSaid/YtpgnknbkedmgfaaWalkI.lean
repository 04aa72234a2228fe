/- ProbePlays, ProbeRaw, ProbeLooks and ProbeSizes answer true of any keys, any numbers, any key and any number. Conditions: none but that what is handed in stands in memory. -/
import Derived.Test.YtpgnknbkedmgfaaWalkH
namespace Go.Proofs.Ytpgnknbkedmgfaa
open Go.RowKit Go.Op
set_option maxRecDepth 100000

theorem build_64 {ks : List ByteArray} (hl : ks.length ≤ 1000) : ∀ x ∈ build ks, In64 x := fun x hx => by
  have := tab_entry ks (Nat.le_refl _) x hx
  unfold In64
  omega
theorem build_short {ks : List ByteArray} (hl : ks.length ≤ 130) : (build ks).length ≤ 512 := by
  rw [build_length]
  exact sz_top (k := 8) (by omega)

set_option maxHeartbeats 2000000 in
theorem playsLaw_any (a : Option Addr) (ks : List ByteArray) (c : Nat) (k : ByteArray) (w : World) (hK : Keys w a ks) (hs : ∀ x ∈ ks, x.size ≤ maxLen) (hk : k.size ≤ maxLen) : Calls Try.prog 3 #[.slice a ks.length c, .string k] w fun e w' => e = .returned (.bool true) ∧ Below w.heap.size w w' := by
  have hfw := fun w' hK' => few_any a ks c w' hK' hs
  unfold maxLen at hk
  by_cases h1 : FewK ks
  · rw [fewV_yes h1] at hfw
    by_cases h2 : k.size ≤ 40
    · have d2 : decide (40 < (k.size : Int)) = false := decide_eq_false (by omega)
      have hb := fun w' hK' => build_any a ks c w' hK' (by have := h1.1; omega) (fun x hx => by have := h1.2 x hx; omega)
      have hr := fun w' hK' => refbuild_any a ks c w' hK' (by have := h1.1; omega) (fun x hx => by have := h1.2 x hx; omega)
      have hlen := build_short h1.1
      have hf := fun g w' (hT : Tab w' g (build ks)) hK' => find_any (some ⟨g, 0, none⟩) (build ks) (build ks).length a ks c k w' hT.nums hK' (build_64 (by have := h1.1; omega)) (by have := h1.1; omega) (by omega) (by omega)
      have hg := fun g w' (hT : Tab w' g (build ks)) hK' => reffind_any (some ⟨g, 0, none⟩) (build ks) (build ks).length a ks c k w' hT.nums hK' (build_64 (by have := h1.1; omega)) (by have := h1.1; omega) (by omega) (by omega)
      have hn := fun g1 g2 w' (hT : Tab w' g1 (build ks)) (hU : Tab w' g2 (build ks)) => numbers_any (build ks) g1 g2 (build ks).length (build ks).length w' (by omega) hT hU
      have hz := fun w => size_any (ks.length : Int) (by have := h1.1; omega) w
      simp only [Int.toNat_natCast] at hz
      rw [← build_length ks] at hz
      have hl := h1.1
      generalize build ks = T at hb hr hf hg hn hz hlen
      generalize place T ks k = P at hf hg
      generalize looked T ks k = L at hf hg
      go_enter Try.func3, Try.ntmps3
      go_wp2_with fail
      refine (awake_any _).mono ?_
      rintro e w1 ⟨rfl, b1⟩
      have s1 := b1.size
      have k1 := hK.below b1
      go_wp2_with fail
      refine (hfw _ k1).mono ?_
      rintro e w2 ⟨rfl, rfl⟩
      go_wp2_with fail
      refine (hb _ k1).mono ?_
      rintro e w3 ⟨g, rfl, hg3, t3, b3⟩
      have s3 := b3.size
      have k3 := k1.below b3
      go_wp2_with fail
      refine (hf _ _ t3 k3).mono ?_
      rintro e w4 ⟨rfl, rfl⟩
      go_wp2_with fail
      refine (hr _ k3).mono ?_
      rintro e w5 ⟨g5, rfl, hg5, t5, b5⟩
      have s5 := b5.size
      have k5 := k3.below b5
      have t35 := t3.below b5
      go_wp2_with fail
      refine (hg _ _ t5 k5).mono ?_
      rintro e w6 ⟨rfl, rfl⟩
      go_wp2_with fail
      refine (hr _ k5).mono ?_
      rintro e w7 ⟨g7, rfl, hg7, t7, b7⟩
      have s7 := b7.size
      have t37 := t35.below b7
      go_wp2_with fail
      refine (hn _ _ _ t37 t7).mono ?_
      rintro e w8 ⟨rfl, b8⟩
      go_wp2_with fail
      refine (hz _).mono ?_
      rintro e w9 ⟨rfl, rfl⟩
      go_wp2
      go_ret
      exact ⟨rfl, (((b1.trans (b3.mono (by omega))).trans (b5.mono (by omega))).trans (b7.mono (by omega))).trans (b8.mono (by omega))⟩
    · have d2 : decide (40 < (k.size : Int)) = true := decide_eq_true (by omega)
      go_enter Try.func3, Try.ntmps3
      go_wp2_with fail
      refine (awake_any _).mono ?_
      rintro e w1 ⟨rfl, b1⟩
      have s1 := b1.size
      go_wp2_with fail
      refine (hfw _ (hK.below b1)).mono ?_
      rintro e w2 ⟨rfl, rfl⟩
      go_wp2_with fail
      refine (awake_any _).mono ?_
      rintro e w3 ⟨rfl, b3⟩
      go_wp2
      go_ret
      exact ⟨rfl, b1.trans (b3.mono (by omega))⟩
  · rw [fewV_no h1] at hfw
    go_enter Try.func3, Try.ntmps3
    go_wp2_with fail
    refine (awake_any _).mono ?_
    rintro e w1 ⟨rfl, b1⟩
    have s1 := b1.size
    go_wp2_with fail
    refine (hfw _ (hK.below b1)).mono ?_
    rintro e w2 ⟨rfl, rfl⟩
    go_wp2_with fail
    refine (awake_any _).mono ?_
    rintro e w3 ⟨rfl, b3⟩
    go_wp2
    go_ret
    exact ⟨rfl, b1.trans (b3.mono (by omega))⟩

set_option maxHeartbeats 2000000 in
theorem rawLaw_any (t : Option Addr) (T : List Int) (d : Nat) (a : Option Addr) (ks : List ByteArray) (c : Nat) (k : ByteArray) (w : World) (hT : Nums w t T) (h64 : ∀ x ∈ T, In64 x) (hK : Keys w a ks) (hs : ∀ x ∈ ks, x.size ≤ maxLen) (hk : k.size ≤ maxLen) : Calls Try.prog 6 #[.slice t T.length d, .slice a ks.length c, .string k] w fun e w' => e = .returned (.bool true) ∧ Below w.heap.size w w' := by
  have hfw := fun w' hK' => few_any a ks c w' hK' hs
  unfold maxLen at hk
  by_cases h1 : FewK ks
  · rw [fewV_yes h1] at hfw
    by_cases h2 : k.size ≤ 40
    · have d2 : decide (40 < (k.size : Int)) = false := decide_eq_false (by omega)
      by_cases h3 : T.length ≤ 300
      · have d3 : decide (300 < (T.length : Int)) = false := decide_eq_false (by omega)
        have hf := fun w' hT' hK' => find_any t T d a ks c k w' hT' hK' h64 (by have := h1.1; omega) (by omega) (by omega)
        have hg := fun w' hT' hK' => reffind_any t T d a ks c k w' hT' hK' h64 (by have := h1.1; omega) (by omega) (by omega)
        generalize place T ks k = P at hf hg
        generalize looked T ks k = L at hf hg
        go_enter Try.func6, Try.ntmps6
        go_wp2_with fail
        refine (awake_any _).mono ?_
        rintro e w1 ⟨rfl, b1⟩
        have k1 := hK.below b1
        have t1 := hT.below b1
        go_wp2_with fail
        refine (hfw _ k1).mono ?_
        rintro e w2 ⟨rfl, rfl⟩
        go_wp2_with fail
        refine (hf _ t1 k1).mono ?_
        rintro e w4 ⟨rfl, rfl⟩
        go_wp2_with fail
        refine (hg _ t1 k1).mono ?_
        rintro e w6 ⟨rfl, rfl⟩
        go_wp2
        go_ret
        exact ⟨rfl, b1⟩
      · have d3 : decide (300 < (T.length : Int)) = true := decide_eq_true (by omega)
        go_enter Try.func6, Try.ntmps6
        go_wp2_with fail
        refine (awake_any _).mono ?_
        rintro e w1 ⟨rfl, b1⟩
        have s1 := b1.size
        go_wp2_with fail
        refine (hfw _ (hK.below b1)).mono ?_
        rintro e w2 ⟨rfl, rfl⟩
        go_wp2_with fail
        refine (awake_any _).mono ?_
        rintro e w3 ⟨rfl, b3⟩
        go_wp2
        go_ret
        exact ⟨rfl, b1.trans (b3.mono (by omega))⟩
    · have d2 : decide (40 < (k.size : Int)) = true := decide_eq_true (by omega)
      go_enter Try.func6, Try.ntmps6
      go_wp2_with fail
      refine (awake_any _).mono ?_
      rintro e w1 ⟨rfl, b1⟩
      have s1 := b1.size
      go_wp2_with fail
      refine (hfw _ (hK.below b1)).mono ?_
      rintro e w2 ⟨rfl, rfl⟩
      go_wp2_with fail
      refine (awake_any _).mono ?_
      rintro e w3 ⟨rfl, b3⟩
      go_wp2
      go_ret
      exact ⟨rfl, b1.trans (b3.mono (by omega))⟩
  · rw [fewV_no h1] at hfw
    go_enter Try.func6, Try.ntmps6
    go_wp2_with fail
    refine (awake_any _).mono ?_
    rintro e w1 ⟨rfl, b1⟩
    have s1 := b1.size
    go_wp2_with fail
    refine (hfw _ (hK.below b1)).mono ?_
    rintro e w2 ⟨rfl, rfl⟩
    go_wp2_with fail
    refine (awake_any _).mono ?_
    rintro e w3 ⟨rfl, b3⟩
    go_wp2
    go_ret
    exact ⟨rfl, b1.trans (b3.mono (by omega))⟩
end Go.Proofs.Ytpgnknbkedmgfaa
