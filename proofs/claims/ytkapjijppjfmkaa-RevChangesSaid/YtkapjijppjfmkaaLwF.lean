/- The law RevChanges where it looks at nothing; what a key is behind changes, one behind the other. Conditions: entries, a span or a key that are not few and short. -/
import Derived.Test.YtkapjijppjfmkaaLwC
namespace Go.Proofs.Ytkapjijppjfmkaa
open Go.RowKit Go.Op
set_option maxRecDepth 100000

def stepV (k : ByteArray) (p : ByteArray × Bool) (e : En) : ByteArray × Bool := if e.key = k then (e.val, !e.gone) else p
/-- What a key is behind so many changes. -/
def upV (l m : List En) (k : ByteArray) (i : Nat) : ByteArray × Bool := (m.take i).foldl (stepV k) (getV l k)
theorem upV_zero (l m : List En) (k : ByteArray) : upV l m k 0 = getV l k := rfl
theorem upV_next {l m : List En} {k : ByteArray} {i : Nat} (hi : i < m.length) : upV l m k (i + 1) = stepV k (upV l m k i) m[i] := by
  unfold upV
  rw [List.take_succ_eq_append_getElem hi, List.foldl_append]
  rfl
theorem val_no {e : En} (h : e.val.size = 0) : e.val = no := by
  obtain ⟨k, ⟨v⟩, g⟩ := e
  have : v = #[] := Array.eq_empty_of_size_eq_zero h
  subst this
  rfl
theorem fold_val (k : ByteArray) : ∀ (m : List En) (o : Option En), (∀ e ∈ m, e.gone = true → e.val.size = 0) → m.foldl (stepV k) (valO o) = valO (m.foldl (fun a e => if e.key = k then some e else a) o)
  | [], _, _ => rfl
  | e :: m, o, h => by
    rw [List.foldl_cons, List.foldl_cons]
    have hs : stepV k (valO o) e = valO (if e.key = k then some e else o) := by
      unfold stepV
      split
      · cases hg : e.gone with
        | true =>
          have := h e (List.mem_cons_self ..) hg
          simp [valO, hg, val_no this]
        | false => simp [valO, hg]
      · rfl
    rw [hs]
    exact fold_val k m _ fun x hx => h x (List.mem_cons_of_mem _ hx)
theorem upV_end {l m : List En} {k : ByteArray} (h : ∀ e ∈ m, e.gone = true → e.val.size = 0) : upV l m k m.length = getV (changedL l m) k := by
  unfold upV getV
  rw [List.take_length, getE_changed]
  exact fold_val k m _ h
/-- What Apply answers, told ahead, of any revision that is not dead. -/
theorem apply_ahead (next : Int) (R : Rm) (rs : Rs) (m : List En) (W : World) (hd : R.dead = false) (hl : R.l.length ≤ 200) (hm : m.length ≤ 200) (hkl : ∀ e ∈ R.l, e.key.size ≤ 1000000) (hkm : ∀ e ∈ m, e.key.size ≤ 1000000) (hri : Rise R.l) (hR : RevAt W R rs) :
    ∃ R2 er2, (∀ ad cc w', Below W.heap.size W w' → Ents w' ad m → Calls Try.prog 22 #[R.v rs, .int .i64 next, .slice ad m.length cc] w' fun e w2 => ∃ s', e = .returned (.tuple #[R2.v s', .int .i64 er2]) ∧ RevAt w2 R2 s' ∧ s'.from_ w'.heap.size ∧ Below w'.heap.size w' w2) ∧
      ((rightB R.sp m = true ∧ R2 = ⟨next, rated R.rate m.length, R.sp, false, changedL R.l m, build ((changedL R.l m).map En.key)⟩ ∧ er2 = 0) ∨ (rightB R.sp m = false ∧ R2 = Rm.none ∧ er2 = 1)) := by
  obtain ⟨v, r, s, dd, l, t⟩ := R
  cases hd
  exact apply_known v r next s l t rs m W hl hm hkl hkm hri hR

set_option maxHeartbeats 2000000 in
theorem changes_no (sp : Sp) (a : Option Addr) (l : List En) (c : Nat) (b : Option Addr) (m : List En) (d : Nat) (k : ByteArray) (w : World) (hE : Ents w a l) (hM : Ents w b m) (hno : FewE l → FewE m → sp.brief = true → ¬ k.size ≤ 40) :
    Calls Try.prog 5 #[sp.v, .slice a l.length c, .slice b m.length d, .string k] w fun e w' => e = .returned (.bool true) ∧ Below w.heap.size w w' := by
  have HE := Lib.hid hE
  have HM := Lib.hid hM
  have K1 := Lib.hid (one_start w sp)
  clear hE hM
  simp only [Sp.v]
  by_cases hF : FewE l
  case neg =>
    have e0 := fewE_no hF
    clear hF hno
    go_enter Try.func5, Try.ntmps5
    go_wp2_with fail
    refine (awake_any _).mono ?_
    rintro e w2 ⟨rfl, b2⟩
    have K2 := Lib.hid (K1.out.next b2)
    clear b2
    go_wp2_with fail
    refine (few_any a l c w2 (HE.out.below K2.out.1)).mono ?_
    rintro e w3 ⟨rfl, rfl⟩
    rw [e0]
    go_wp2_with fail
    refine (awake_any _).mono ?_
    rintro e w9 ⟨rfl, b9⟩
    have K9 := Lib.hid (K2.out.next b9)
    clear b9
    go_wp2_with fail
    go_ret
    exact ⟨rfl, K9.out.1⟩
  have hno2 := hno hF
  have e0 := fewE_yes hF
  clear hF hno
  by_cases hG : FewE m
  case neg =>
    have e1 := fewE_no hG
    clear hG hno2
    go_enter Try.func5, Try.ntmps5
    go_wp2_with fail
    refine (awake_any _).mono ?_
    rintro e w2 ⟨rfl, b2⟩
    have K2 := Lib.hid (K1.out.next b2)
    clear b2
    go_wp2_with fail
    refine (few_any a l c w2 (HE.out.below K2.out.1)).mono ?_
    rintro e w3 ⟨rfl, rfl⟩
    rw [e0]
    go_wp2_with fail
    refine (few_any b m d w2 (HM.out.below K2.out.1)).mono ?_
    rintro e w3 ⟨rfl, rfl⟩
    rw [e1]
    go_wp2_with fail
    refine (awake_any _).mono ?_
    rintro e w9 ⟨rfl, b9⟩
    have K9 := Lib.hid (K2.out.next b9)
    clear b9
    go_wp2_with fail
    go_ret
    exact ⟨rfl, K9.out.1⟩
  have e1 := fewE_yes hG
  have hno3 := hno2 hG
  clear hG hno2
  cases hsb : sp.brief with
  | false =>
    clear hno3
    go_enter Try.func5, Try.ntmps5
    go_wp2_with fail
    refine (awake_any _).mono ?_
    rintro e w2 ⟨rfl, b2⟩
    have K2 := Lib.hid (K1.out.next b2)
    clear b2
    go_wp2_with fail
    refine (few_any a l c w2 (HE.out.below K2.out.1)).mono ?_
    rintro e w3 ⟨rfl, rfl⟩
    rw [e0]
    go_wp2_with fail
    refine (few_any b m d w2 (HM.out.below K2.out.1)).mono ?_
    rintro e w3 ⟨rfl, rfl⟩
    rw [e1]
    obtain ⟨c0, c1, c2⟩ := K2.out.s
    go_wp2_with fail
    refine (brief_any sp w2).mono ?_
    rintro e w3 ⟨rfl, b3⟩
    have K3 := Lib.hid (K2.out.next b3)
    rw [hsb]
    clear b3 c0 c1 c2
    go_wp2_with fail
    refine (awake_any _).mono ?_
    rintro e w9 ⟨rfl, b9⟩
    have K9 := Lib.hid (K3.out.next b9)
    clear b9
    go_wp2_with fail
    go_ret
    exact ⟨rfl, K9.out.1⟩
  | true =>
    have hks := hno3 hsb
    have d1 : decide ((40 : Int) < (k.size : Int)) = true := decide_eq_true (by omega)
    clear hno3
    go_enter Try.func5, Try.ntmps5
    go_wp2_with fail
    refine (awake_any _).mono ?_
    rintro e w2 ⟨rfl, b2⟩
    have K2 := Lib.hid (K1.out.next b2)
    clear b2
    go_wp2_with fail
    refine (few_any a l c w2 (HE.out.below K2.out.1)).mono ?_
    rintro e w3 ⟨rfl, rfl⟩
    rw [e0]
    go_wp2_with fail
    refine (few_any b m d w2 (HM.out.below K2.out.1)).mono ?_
    rintro e w3 ⟨rfl, rfl⟩
    rw [e1]
    obtain ⟨c0, c1, c2⟩ := K2.out.s
    go_wp2_with fail
    refine (brief_any sp w2).mono ?_
    rintro e w3 ⟨rfl, b3⟩
    have K3 := Lib.hid (K2.out.next b3)
    rw [hsb]
    clear b3 c0 c1 c2
    go_wp2_with fail
    refine (awake_any _).mono ?_
    rintro e w9 ⟨rfl, b9⟩
    have K9 := Lib.hid (K3.out.next b9)
    clear b9
    go_wp2_with fail
    go_ret
    exact ⟨rfl, K9.out.1⟩
end Go.Proofs.Ytkapjijppjfmkaa
