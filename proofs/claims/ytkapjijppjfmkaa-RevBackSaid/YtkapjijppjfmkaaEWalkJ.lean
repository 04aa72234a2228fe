/- What rev.Get, and the reference's Find and Get, answer of any entries and any key. Conditions: at most 500 entries, texts of at most 1000000 bytes, the table of the keys. -/
import Derived.Test.YtkapjijppjfmkaaEWalkA
import Derived.Test.YtkapjijppjfmkaaEGen
namespace Go.Proofs.Ytkapjijppjfmkaa
open Go.RowKit Go.Op
set_option maxRecDepth 100000

theorem build_64 {ks : List ByteArray} (h : ks.length ≤ 1000000) : ∀ x ∈ build ks, In64 x := fun x hx => by
  have := tab_entry ks (Nat.le_refl ks.length) x hx
  exact ⟨by omega, by omega⟩
theorem build_less {ks : List ByteArray} (h : ks.length ≤ 1000) : (build ks).length ≤ 1000000 := by
  rw [build_length]
  have := sz_top (n := ks.length) (k := 10) (by omega)
  omega
/-- The place of a key. -/
def atK (l : List En) (k : ByteArray) : Nat := l.findIdx fun e => decide (e.key = k)
theorem atK_map (l : List En) (k : ByteArray) : (l.map En.key).findIdx (isK k) = atK l k := by
  unfold atK
  rw [List.findIdx_map]
  rfl
theorem getE_at (l : List En) (k : ByteArray) : getE l k = l[atK l k]? := by
  unfold getE atK
  induction l with
  | nil => rfl
  | cons e l ih =>
    rw [List.find?_cons, List.findIdx_cons]
    by_cases h : e.key = k
    · simp [h]
    · simp [h, ih]
theorem want_map (l : List En) (k : ByteArray) : wantAt (l.map En.key) k = if atK l k < l.length then (atK l k : Int) else -1 := by
  unfold wantAt
  rw [atK_map, List.length_map]
theorem ret_pair {a c : ByteArray} {b d : Bool} (h : (a, b) = (c, d)) : Ending.returned (.tuple #[.string a, .bool b]) = .returned (.tuple #[.string c, .bool d]) := by
  cases h
  rfl

set_option maxHeartbeats 4000000 in
theorem get_any (R : Rm) (s : Rs) (k : ByteArray) (w : World) (hl : R.l.length ≤ 500) (hR : RevAt w R s) (hT : R.tab = build (R.l.map En.key)) (hk : k.size ≤ 1000000) :
    Calls Try.prog 15 #[R.v s, .string k] w fun e w' => e = .returned (.tuple #[.string (getV R.l k).1, .bool (getV R.l k).2]) ∧ Below w.heap.size w w' := by
  have hct := fun w => count_any R s w
  have hf := fun w' (hb : Below w.heap.size w w') => find_any s.ta R.tab s.tc s.ka (R.l.map En.key) s.kc k w' (hR.t.below hb) (hR.k.below hb) (by rw [hT]; exact build_64 (by rw [List.length_map]; omega)) (by rw [List.length_map]; omega) (by rw [hT]; exact build_less (by rw [List.length_map]; omega)) hk
  rw [hT, place_build, want_map, ← hT] at hf
  obtain ⟨hRk, hRv, hRg, _⟩ := hR
  clear hT
  obtain ⟨ver, rate, sp, dead, l, tab⟩ := R
  obtain ⟨lo, hi, all⟩ := sp
  obtain ⟨ka, kc, va, vc, ga, gc, ta, tc⟩ := s
  simp only [Rm.v] at hct hf hRv hRg hl ⊢
  simp only [List.length_map] at hf
  have HF := Lib.hid hf
  have HV := Lib.hid hRv
  have HG := Lib.hid hRg
  have HE := Lib.hid (getE_at l k)
  have HGV : Hid (getV l k = valO (getE l k)) := Lib.hid rfl
  have B := (Below.refl w.heap.size w).alloc (Nat.le_refl _) (.cells #[.int .i64 ver, .int .i64 rate, .string lo, .string hi, .bool all, .bool dead, .slice ka l.length kc, .slice va l.length vc, .slice ga l.length gc, .slice ta tab.length tc] 33)
  have HB := Lib.hid B
  have hf0 := hf _ B
  clear hf hRv hRg hRk B
  generalize looked tab (l.map En.key) k = L at hf0
  by_cases hi' : atK l k < l.length
  · rw [if_pos hi'] at hf0
    obtain ⟨vb, vo, ev, hvb, vcell⟩ := HV.out.at (k := atK l k) (by rw [List.length_map]; exact hi')
    obtain ⟨gb, go, eg, hgb, gcell⟩ := HG.out.at (k := atK l k) (by rw [List.length_map]; exact hi')
    rw [List.getElem_map] at vcell gcell
    subst ev eg
    have HX : Hid (getV l k = valO (some l[atK l k])) := Lib.hid (by rw [HGV.out, HE.out, List.getElem?_eq_getElem hi'])
    generalize l[atK l k] = x at vcell gcell HX
    generalize atK l k = i at hi' hf0 vcell gcell
    obtain ⟨xk, xv, xg⟩ := x
    simp only at vcell gcell
    have i1 : (i : Int) < (l.length : Int) := by omega
    have i2 : ¬ (i : Int) < 0 := by omega
    have i3 : ¬ (l.length : Int) ≤ (i : Int) := by omega
    have d2 : decide ((i : Int) < 0) = false := decide_eq_false i2
    have d3 : decide ((l.length : Int) ≤ (i : Int)) = false := decide_eq_false i3
    cases xg with
    | false =>
      go_enter Try.func15, Try.ntmps15
      go_wp2_with fail
      refine hf0.mono ?_
      rintro e w1 ⟨rfl, rfl⟩
      go_wp2_with fail
      refine (hct _).mono ?_
      rintro e w1 ⟨rfl, b1⟩
      have s1 := b1.size
      simp at s1
      have c7 : w1.cell? ⟨w.heap.size, 7, none⟩ = some (.slice (some ⟨vb, vo, none⟩) l.length vc) := keep b1 (by simp [go_sem]) (by simp)
      have c8 : w1.cell? ⟨w.heap.size, 8, none⟩ = some (.slice (some ⟨gb, go, none⟩) l.length gc) := keep b1 (by simp [go_sem]) (by simp)
      have B1 := HB.out.trans (b1.mono (by simp))
      have v1 := keep B1 vcell hvb
      have g1 := keep B1 gcell hgb
      have HB1 := Lib.hid B1
      clear B1 b1 i2 i3
      go_wp2
      go_ret2
      exact ⟨ret_pair (by rw [HX.out]; rfl), HB1.out⟩
    | true =>
      go_enter Try.func15, Try.ntmps15
      go_wp2_with fail
      refine hf0.mono ?_
      rintro e w1 ⟨rfl, rfl⟩
      go_wp2_with fail
      refine (hct _).mono ?_
      rintro e w1 ⟨rfl, b1⟩
      have s1 := b1.size
      simp at s1
      have c8 : w1.cell? ⟨w.heap.size, 8, none⟩ = some (.slice (some ⟨gb, go, none⟩) l.length gc) := keep b1 (by simp [go_sem]) (by simp)
      have B1 := HB.out.trans (b1.mono (by simp))
      have g1 := keep B1 gcell hgb
      have HB1 := Lib.hid B1
      clear B1 b1 i2 i3
      go_wp2
      go_ret2
      exact ⟨ret_pair (by rw [HX.out]; rfl), HB1.out⟩
  · rw [if_neg hi'] at hf0
    have HX : Hid (getV l k = (no, false)) := Lib.hid (by rw [HGV.out, HE.out, List.getElem?_eq_none (by omega)]; rfl)
    have d2 : decide ((-1 : Int) < 0) = true := rfl
    go_enter Try.func15, Try.ntmps15
    go_wp2_with fail
    refine hf0.mono ?_
    rintro e w1 ⟨rfl, rfl⟩
    go_wp2
    go_ret2
    exact ⟨ret_pair (by rw [HX.out]; rfl), HB.out⟩
theorem reffind_any (a : Option Addr) (l : List En) (c : Nat) (k : ByteArray) (w : World) (hl : l.length ≤ 1000000) (hE : Ents w a l) :
    Calls Try.prog 38 #[.slice a l.length c, .string k] w fun e w' => e = .returned (.int .i64 (if atK l k < l.length then (atK l k : Int) else -1)) ∧ w = w' := by
  obtain ⟨V, hV⟩ : ∃ V : Int, V = if atK l k < l.length then (atK l k : Int) else -1 := ⟨_, rfl⟩
  rw [← hV]
  have HV := Lib.hid hV
  have HE := Lib.hid hE
  have HS : Hid (∀ i, i ≤ atK l k → ∀ hi : i < l.length, (l[i].key = k ∧ atK l k = i) ∨ (l[i].key ≠ k ∧ i + 1 ≤ atK l k)) := Lib.hid (fun i h hi => by
    rcases Nat.lt_or_ge i (atK l k) with h1 | h1
    · exact .inr ⟨by simpa using List.not_of_lt_findIdx h1, h1⟩
    · have e : atK l k = i := by omega
      have h2 : atK l k < l.length := by omega
      have h3 : l[atK l k].key = k := of_decide_eq_true (List.findIdx_getElem (w := h2))
      subst e
      exact .inl ⟨h3, rfl⟩)
  have hle : atK l k ≤ l.length := List.findIdx_le_length
  clear hE hV
  go_enter Try.func38, Try.ntmps38
  go_wp2
  go_loop [5] (fun iv => ∃ i : Nat, i ≤ atK l k ∧ i ≤ l.length ∧ iv = .int .i64 (i : Int)) (fun iv => l.length - (intOf iv).toNat)
  case atStart => exact ⟨0, by omega, by omega, rfl⟩
  case round =>
    obtain ⟨i, hi, hil, rfl⟩ := hrel
    by_cases h1 : i < l.length
    · have i1 : (i : Int) < (l.length : Int) := by omega
      obtain ⟨g, off, rfl, hlt, hc⟩ := HE.out.at h1
      have hs := HS.out i hi h1
      generalize l[i] = x at hc hs
      obtain ⟨xk, xv, xg⟩ := x
      obtain ⟨c1, c2, c3⟩ := hc
      simp only at c1 c2 c3 hs
      rcases hs with ⟨h2, h3⟩ | ⟨h2, h3⟩
      · have HX := Lib.hid h3
        have e1 : (xk.toList == k.toList) = true := by rw [same_text]; exact decide_eq_true h2
        clear h3 h2
        go_wp2
        go_ret
        exact ⟨ret_i64 (by have := HX.out; rw [HV.out]; split <;> omega), rfl⟩
      · have e1 : (xk.toList == k.toList) = false := by rw [same_text]; exact decide_eq_false h2
        clear h2
        go_wp2
        go_round
        case rel => exact ⟨i + 1, h3, by omega, by go_num⟩
        case measure => simp [intOf]; omega
    · have i1 : ¬ (i : Int) < (l.length : Int) := by omega
      go_wp2
      go_ret
      exact ⟨ret_i64 (by rw [HV.out]; split <;> omega), rfl⟩
theorem refget_any (a : Option Addr) (l : List En) (c : Nat) (k : ByteArray) (w : World) (hl : l.length ≤ 1000000) (hE : Ents w a l) :
    Calls Try.prog 16 #[.slice a l.length c, .string k] w fun e w' => e = .returned (.tuple #[.string (getV l k).1, .bool (getV l k).2]) ∧ w = w' := by
  have hf := fun w' (hE : Ents w' a l) => reffind_any a l c k w' hl hE
  have hf0 := hf w hE
  have HE := Lib.hid (getE_at l k)
  have HGV : Hid (getV l k = valO (getE l k)) := Lib.hid rfl
  clear hf
  by_cases hi' : atK l k < l.length
  · rw [if_pos hi'] at hf0
    obtain ⟨g, off, rfl, hlt, hc⟩ := hE.at hi'
    have HX : Hid (getV l k = valO (some l[atK l k])) := Lib.hid (by rw [HGV.out, HE.out, List.getElem?_eq_getElem hi'])
    generalize l[atK l k] = x at hc HX
    generalize atK l k = i at hi' hf0 hc
    obtain ⟨xk, xv, xg⟩ := x
    obtain ⟨c1, c2, c3⟩ := hc
    simp only at c1 c2 c3
    have i1 : (i : Int) < (l.length : Int) := by omega
    have d2 : decide ((i : Int) < 0) = false := decide_eq_false (by omega)
    clear hE
    cases xg with
    | false =>
      go_enter Try.func16, Try.ntmps16
      go_wp2_with fail
      refine hf0.mono ?_
      rintro e w1 ⟨rfl, rfl⟩
      go_wp2
      go_ret2
      exact ⟨ret_pair (by rw [HX.out]; rfl), rfl⟩
    | true =>
      go_enter Try.func16, Try.ntmps16
      go_wp2_with fail
      refine hf0.mono ?_
      rintro e w1 ⟨rfl, rfl⟩
      go_wp2
      go_ret2
      exact ⟨ret_pair (by rw [HX.out]; rfl), rfl⟩
  · rw [if_neg hi'] at hf0
    have HX : Hid (getV l k = (no, false)) := Lib.hid (by rw [HGV.out, HE.out, List.getElem?_eq_none (by omega)]; rfl)
    clear hE
    go_enter Try.func16, Try.ntmps16
    go_wp2_with fail
    refine hf0.mono ?_
    rintro e w1 ⟨rfl, rfl⟩
    go_wp2
    go_ret2
    exact ⟨ret_pair (by rw [HX.out]; rfl), rfl⟩
end Go.Proofs.Ytkapjijppjfmkaa
