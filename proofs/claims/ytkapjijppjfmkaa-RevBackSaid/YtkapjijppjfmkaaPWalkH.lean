/- That the law is awake; what Few and Numbers answer. Conditions: at most 1000000 numbers. -/
import Derived.Test.YtkapjijppjfmkaaPWalkG
import Derived.BigQuiet
namespace Go.Proofs.Ytkapjijppjfmkaa
open Go.RowKit Go.Op
set_option maxRecDepth 100000

def FewK (ks : List ByteArray) : Prop := ks.length ≤ 130 ∧ ∀ x ∈ ks, x.size ≤ 40
instance (ks : List ByteArray) : Decidable (FewK ks) := by unfold FewK; exact inferInstance
def fewV (ks : List ByteArray) : Int := if FewK ks then 1 else 0
theorem fewV_no {ks : List ByteArray} (h : ¬ FewK ks) : fewV ks = 0 := if_neg h
theorem fewV_yes {ks : List ByteArray} (h : FewK ks) : fewV ks = 1 := if_pos h
theorem few_not {ks : List ByteArray} {i : Nat} (h : i < ks.length) (h2 : 40 < ks[i].size) : ¬ FewK ks := fun hf => by
  have := hf.2 _ (List.getElem_mem h)
  omega
theorem few_yes {ks : List ByteArray} (h : ks.length ≤ 130) (h2 : ∀ j (hj : j < ks.length), ks[j].size ≤ 40) : FewK ks := ⟨h, fun x hx => by
  obtain ⟨j, hj, rfl⟩ := List.mem_iff_getElem.1 hx
  exact h2 j hj⟩
theorem below_drawn {B : Nat} {a w : World} (h : Below B a w) (n : Nat) : Below B a (w.drewN n) := h.trans ⟨rfl, rfl, rfl, Nat.le_refl _, fun _ _ => rfl⟩
set_option maxHeartbeats 1000000 in
theorem numbers_any (T : List Int) (g1 g2 c1 c2 : Nat) (w : World) (hl : T.length ≤ 1000000) (h1 : Tab w g1 T) (h2 : Tab w g2 T) :
    Calls Try.prog 34 #[.slice (some ⟨g1, 0, none⟩) T.length c1, .slice (some ⟨g2, 0, none⟩) T.length c2] w fun e w' => e = .returned (.int .i64 1) ∧ Below w.heap.size w w' := by
  have H1 := Lib.hid h1.cell
  have H2 := Lib.hid h2.cell
  clear h1 h2
  go_enter Try.func34, Try.ntmps34
  go_wp2
  go_loopw [5] (fun i wr => ∃ k : Nat, k ≤ T.length ∧ i = .int .i64 k ∧ Hid (∀ a, wr.cell? a = w.cell? a) ∧ Below w.heap.size w wr) (fun i _ => T.length - (intOf i).toNat)
  case atStart => exact ⟨0, by omega, rfl, Lib.hid (fun _ => rfl), Below.refl _ _⟩
  case round =>
    obtain ⟨k, hk, rfl, HC, hb⟩ := hrel
    by_cases hp : k < T.length
    · have i1 : (k : Int) < (T.length : Int) := by omega
      obtain ⟨x, hx⟩ : ∃ x, x = T[k]'hp := ⟨_, rfl⟩
      have e1 : wr.cell? ⟨g1, k, none⟩ = some (.int .i64 x) := by rw [hx, HC.out]; exact H1.out k hp
      have e2 : wr.cell? ⟨g2, k, none⟩ = some (.int .i64 x) := by rw [hx, HC.out]; exact H2.out k hp
      clear hx
      go_wp2
      go_quiet (fail)
      go_wp2
      go_roundw
      case rel => exact ⟨k + 1, by omega, by go_num, HC, below_drawn hb _⟩
      case measure => simp [intOf]; omega
    · have i1 : ¬ (k : Int) < (T.length : Int) := by omega
      go_wp2
      go_ret
      exact ⟨rfl, hb⟩
end Go.Proofs.Ytkapjijppjfmkaa
