/- That the law is awake; what Few and Numbers answer. Conditions: at most 1000000 numbers. -/
import Derived.Test.YtpgnknbkedmgfaaWalkG
import Derived.BigQuiet
namespace Go.Proofs.Ytpgnknbkedmgfaa
open Go.RowKit Go.Op
set_option maxRecDepth 100000

def a1 : ByteArray := ⟨#[97]⟩
theorem build_nil : build [] = [0, 0] := by decide
theorem place_nil : place (build []) [] a1 = -1 := by rw [place_build]; decide
theorem looked_nil : looked (build []) [] a1 = 1 := by
  have h1 := looked_few [] a1
  have h2 := looked_build [] a1
  simp only [List.length_nil] at h1
  omega
set_option maxHeartbeats 1000000 in
theorem awake_any (w : World) : Calls Try.prog 8 #[] w fun e w' => e = .returned (.bool true) ∧ Below w.heap.size w w' := by
  have hb := fun w => build_any none [] 0 w (.inl rfl) (by decide) (by intro x hx; cases hx)
  have hf := fun g w (ht : Tab w g (build [])) => find_any (some ⟨g, 0, none⟩) (build []) 2 none [] 0 a1 w ht.nums (.inl rfl) (by rw [build_nil]; intro x hx; simp at hx; subst hx; unfold In64; omega) (by decide) (by rw [build_nil]; decide) (by decide)
  rw [place_nil, looked_nil] at hf
  simp only [build_nil, List.length_cons, List.length_nil] at hb hf
  go_enter Try.func8, Try.ntmps8
  go_wp2_with fail
  refine (hb _).mono ?_
  rintro e w1 ⟨g, rfl, hg, ht, b1⟩
  have c0 : w1.cell? ⟨g, 0, none⟩ = some (.int .i64 0) := ht.cell 0 (by decide)
  have c1 : w1.cell? ⟨g, 1, none⟩ = some (.int .i64 0) := ht.cell 1 (by decide)
  go_wp2_with fail
  refine (hf _ _ ht).mono ?_
  rintro e w2 ⟨rfl, rfl⟩
  go_wp2
  go_ret
  exact ⟨rfl, b1⟩

def FewK (ks : List ByteArray) : Prop := ks.length ≤ 130 ∧ ∀ x ∈ ks, x.size ≤ 40
instance (ks : List ByteArray) : Decidable (FewK ks) := by unfold FewK; exact inferInstance
def fewV (ks : List ByteArray) : Int := if FewK ks then 1 else 0
theorem fewV_no {ks : List ByteArray} (h : ¬ FewK ks) : fewV ks = 0 := if_neg h
theorem fewV_yes {ks : List ByteArray} (h : FewK ks) : fewV ks = 1 := if_pos h
theorem few_not {ks : List ByteArray} {i : Nat} (h : i < ks.length) (h2 : 40 < ks[i].size) : ¬ FewK ks := fun hf => by
  have := hf.2 _ (List.getElem_mem h)
  omega
theorem few_yes {ks : List ByteArray} (h : ks.length ≤ 130) (h2 : ∀ j (hj : j < ks.length), ks[j].size ≤ 40) : FewK ks := ⟨h, fun x hx => by
  obtain ⟨j, hj, rfl⟩ := List.mem_iff_getElem.1 hx
  exact h2 j hj⟩
set_option maxHeartbeats 1000000 in
theorem few_any (a : Option Addr) (ks : List ByteArray) (c : Nat) (w : World) (hK : Keys w a ks) (hs : ∀ x ∈ ks, x.size ≤ maxLen) : Calls Try.prog 9 #[.slice a ks.length c] w fun e w' => e = .returned (.int .i64 (fewV ks)) ∧ w = w' := by
  by_cases h0 : ks.length ≤ 130
  · have HK := Lib.hid hK
    have HS := Lib.hid hs
    clear hK hs
    have HY := Lib.hid (fun h => few_yes (ks := ks) h0 h)
    have HN := Lib.hid (fun i (h : i < ks.length) (h2 : 40 < ks[i].size) => few_not h h2)
    go_enter Try.func9, Try.ntmps9
    go_wp2
    go_loop [3] (fun iv => ∃ i : Nat, i ≤ ks.length ∧ iv = .int .i64 (i : Int) ∧ Hid (∀ j (hj : j < ks.length), j < i → ks[j].size ≤ 40)) (fun iv => ks.length - (intOf iv).toNat)
    case atStart => exact ⟨0, by omega, rfl, Lib.hid (fun j hj h => absurd h (by omega))⟩
    case round =>
      obtain ⟨i, hi, rfl, HI⟩ := hrel
      by_cases h1 : i < ks.length
      · have i1 : (i : Int) < (ks.length : Int) := by omega
        have hkc : ∃ g2 off2, a = some ⟨g2, off2, none⟩ ∧ w.cell? ⟨g2, off2 + i, none⟩ = some (.string ks[i]) := by
          rcases HK.out with h0 | ⟨g2, off2, rfl, hlt, hc⟩
          · rw [h0] at h1; simp at h1
          · exact ⟨g2, off2, rfl, hc i h1⟩
        obtain ⟨g2, off2, rfl, hkcell⟩ := hkc
        have HN1 := Lib.hid (HN.out i h1)
        have hsz := HS.out _ (List.getElem_mem h1)
        unfold maxLen at hsz
        have HI2 : Hid (ks[i].size ≤ 40 → ∀ j (hj : j < ks.length), j < i + 1 → ks[j].size ≤ 40) := Lib.hid (fun h j hj hlt => by
          rcases Nat.lt_or_ge j i with h2 | h2
          · exact HI.out j hj h2
          · obtain rfl : j = i := by omega
            exact h)
        generalize ks[i] = x at hkcell HN1 HI2 hsz
        by_cases h2 : 40 < x.size
        · have i2 : (40 : Int) < (x.size : Int) := by omega
          have HX := Lib.hid (fewV_no (HN1.out h2))
          go_wp2
          go_ret
          exact ⟨ret_i64 (by rw [HX.out]), rfl⟩
        · have i2 : ¬ (40 : Int) < (x.size : Int) := by omega
          go_wp2
          go_round
          case rel => exact ⟨i + 1, by omega, by go_num, Lib.hid (HI2.out (by omega))⟩
          case measure => simp [intOf]; omega
      · have i1 : ¬ (i : Int) < (ks.length : Int) := by omega
        have HX := Lib.hid (fewV_yes (HY.out (fun j hj => HI.out j hj (by omega))))
        go_wp2
        go_ret
        exact ⟨ret_i64 (by rw [HX.out]), rfl⟩
  · have i1 : (130 : Int) < (ks.length : Int) := by omega
    have HX := Lib.hid (fewV_no (fun h => h0 h.1))
    go_enter Try.func9, Try.ntmps9
    go_wp2
    go_ret
    exact ⟨ret_i64 (by rw [HX.out]), rfl⟩

theorem below_drawn {B : Nat} {a w : World} (h : Below B a w) (n : Nat) : Below B a (w.drewN n) := h.trans ⟨rfl, rfl, rfl, Nat.le_refl _, fun _ _ => rfl⟩
set_option maxHeartbeats 1000000 in
theorem numbers_any (T : List Int) (g1 g2 c1 c2 : Nat) (w : World) (hl : T.length ≤ 1000000) (h1 : Tab w g1 T) (h2 : Tab w g2 T) :
    Calls Try.prog 14 #[.slice (some ⟨g1, 0, none⟩) T.length c1, .slice (some ⟨g2, 0, none⟩) T.length c2] w fun e w' => e = .returned (.int .i64 1) ∧ Below w.heap.size w w' := by
  have H1 := Lib.hid h1.cell
  have H2 := Lib.hid h2.cell
  clear h1 h2
  go_enter Try.func14, Try.ntmps14
  go_wp2
  go_loopw [5] (fun i wr => ∃ k : Nat, k ≤ T.length ∧ i = .int .i64 k ∧ Hid (∀ a, wr.cell? a = w.cell? a) ∧ Below w.heap.size w wr) (fun i _ => T.length - (intOf i).toNat)
  case atStart => exact ⟨0, by omega, rfl, Lib.hid (fun _ => rfl), Below.refl _ _⟩
  case round =>
    obtain ⟨k, hk, rfl, HC, hb⟩ := hrel
    by_cases hp : k < T.length
    · have i1 : (k : Int) < (T.length : Int) := by omega
      obtain ⟨x, hx⟩ : ∃ x, x = T[k]'hp := ⟨_, rfl⟩
      have e1 : wr.cell? ⟨g1, k, none⟩ = some (.int .i64 x) := by rw [hx, HC.out]; exact H1.out k hp
      have e2 : wr.cell? ⟨g2, k, none⟩ = some (.int .i64 x) := by rw [hx, HC.out]; exact H2.out k hp
      clear hx
      go_wp2
      go_quiet (fail)
      go_wp2
      go_roundw
      case rel => exact ⟨k + 1, by omega, by go_num, HC, below_drawn hb _⟩
      case measure => simp [intOf]; omega
    · have i1 : ¬ (k : Int) < (T.length : Int) := by omega
      go_wp2
      go_ret
      exact ⟨rfl, hb⟩
end Go.Proofs.Ytpgnknbkedmgfaa
