/- What the reference's Find, the law's Few and Of answer of any entries; Short of any spans. Conditions: at most 1000000 entries. -/
import Derived.Test.YthglldnhffkefaaSWalkK
import Derived.Deep.RegionLaw
namespace Go.Proofs.Ythglldnhffkefaa
open Go.RowKit Go.Op
set_option maxRecDepth 100000

theorem ret_i64 {a b : Int} (h : a = b) : Ending.returned (.int .i64 a) = .returned (.int .i64 b) := by rw [h]
theorem same_text (x k : ByteArray) : (x.toList == k.toList) = decide (x = k) := by
  rw [Bool.eq_iff_iff, decide_eq_true_eq, beq_iff_eq, ByteArray.toList_eq, ByteArray.toList_eq]
  constructor
  · intro h
    cases x
    cases k
    simpa using h
  · rintro rfl
    rfl
set_option maxHeartbeats 1000000 in
def atK (l : List En) (k : ByteArray) : Nat := l.findIdx fun e => decide (e.key = k)
theorem reffind_any (a : Option Addr) (l : List En) (c : Nat) (k : ByteArray) (w : World) (hl : l.length ≤ 1000000) (hE : Ents w a l) :
    Calls Try.prog 24 #[.slice a l.length c, .string k] w fun e w' => e = .returned (.int .i64 (if atK l k < l.length then (atK l k : Int) else -1)) ∧ w = w' := by
  obtain ⟨V, hV⟩ : ∃ V : Int, V = if atK l k < l.length then (atK l k : Int) else -1 := ⟨_, rfl⟩
  rw [← hV]
  have HV := Lib.hid hV
  have HE := Lib.hid hE
  have HS : Hid (∀ i, i ≤ atK l k → ∀ hi : i < l.length, (l[i].key = k ∧ atK l k = i) ∨ (l[i].key ≠ k ∧ i + 1 ≤ atK l k)) := Lib.hid (fun i h hi => by
    rcases Nat.lt_or_ge i (atK l k) with h1 | h1
    · exact .inr ⟨by simpa using List.not_of_lt_findIdx h1, h1⟩
    · have e : atK l k = i := by omega
      have h2 : atK l k < l.length := by omega
      have h3 : l[atK l k].key = k := of_decide_eq_true (List.findIdx_getElem (w := h2))
      subst e
      exact .inl ⟨h3, rfl⟩)
  have hle : atK l k ≤ l.length := List.findIdx_le_length
  clear hE hV
  go_enter Try.func24, Try.ntmps24
  go_wp2
  go_loop [5] (fun iv => ∃ i : Nat, i ≤ atK l k ∧ i ≤ l.length ∧ iv = .int .i64 (i : Int)) (fun iv => l.length - (intOf iv).toNat)
  case atStart => exact ⟨0, by omega, by omega, rfl⟩
  case round =>
    obtain ⟨i, hi, hil, rfl⟩ := hrel
    by_cases h1 : i < l.length
    · have i1 : (i : Int) < (l.length : Int) := by omega
      obtain ⟨g, off, rfl, hlt, hc⟩ := HE.out.at h1
      have hs := HS.out i hi h1
      generalize l[i] = x at hc hs
      obtain ⟨xk, xv, xg⟩ := x
      obtain ⟨c1, c2, c3⟩ := hc
      simp only at c1 c2 c3 hs
      rcases hs with ⟨h2, h3⟩ | ⟨h2, h3⟩
      · have HX := Lib.hid h3
        have e1 : (xk.toList == k.toList) = true := by rw [same_text]; exact decide_eq_true h2
        clear h3 h2
        go_wp2
        go_ret
        exact ⟨ret_i64 (by have := HX.out; rw [HV.out]; split <;> omega), rfl⟩
      · have e1 : (xk.toList == k.toList) = false := by rw [same_text]; exact decide_eq_false h2
        clear h2
        go_wp2
        go_round
        case rel => exact ⟨i + 1, h3, by omega, by go_num⟩
        case measure => simp [intOf]; omega
    · have i1 : ¬ (i : Int) < (l.length : Int) := by omega
      go_wp2
      go_ret
      exact ⟨ret_i64 (by rw [HV.out]; split <;> omega), rfl⟩
def FewE (l : List En) : Prop := l.length ≤ 70 ∧ ∀ e ∈ l, e.key.size ≤ 40 ∧ e.val.size ≤ 40
open Classical in
noncomputable def fewE (l : List En) : Int := if FewE l then 1 else 0
theorem fewE_yes {l : List En} (h : FewE l) : fewE l = 1 := if_pos h
theorem fewE_no {l : List En} (h : ¬ FewE l) : fewE l = 0 := if_neg h
theorem few_any (a : Option Addr) (l : List En) (c : Nat) (w : World) (hE : Ents w a l) :
    Calls Try.prog 8 #[.slice a l.length c] w fun e w' => e = .returned (.int .i64 (fewE l)) ∧ w = w' := by
  by_cases h0 : l.length ≤ 70
  · have HE := Lib.hid hE
    have HY := Lib.hid (fun h : ∀ e ∈ l, e.key.size ≤ 40 ∧ e.val.size ≤ 40 => fewE_yes (l := l) ⟨h0, h⟩)
    have HN := Lib.hid (fun h : ¬ FewE l => fewE_no h)
    have i0 : ¬ (70 : Int) < (l.length : Int) := by omega
    clear hE
    go_enter Try.func8, Try.ntmps8
    go_wp2
    go_loop [3] (fun iv => ∃ i : Nat, iv = .int .i64 (i : Int) ∧ i ≤ l.length ∧ Hid (∀ j (hj : j < l.length), j < i → l[j].key.size ≤ 40 ∧ l[j].val.size ≤ 40)) (fun iv => l.length - (intOf iv).toNat)
    case atStart => exact ⟨0, rfl, by omega, Lib.hid (fun j _ h => by omega)⟩
    case round =>
      obtain ⟨i, rfl, hil, H1⟩ := hrel
      by_cases h1 : i < l.length
      · have i1 : (i : Int) < (l.length : Int) := by omega
        obtain ⟨eb, eo, rfl, heb, hc⟩ := HE.out.at h1
        have HF : Hid (¬ (l[i].key.size ≤ 40 ∧ l[i].val.size ≤ 40) → fewE l = 0) := Lib.hid (fun h => HN.out (fun hf => h (hf.2 _ (List.getElem_mem h1))))
        have HG : Hid ((l[i].key.size ≤ 40 ∧ l[i].val.size ≤ 40) → ∀ j (hj : j < l.length), j < i + 1 → l[j].key.size ≤ 40 ∧ l[j].val.size ≤ 40) := Lib.hid (fun h j hj hj2 => by
          by_cases e : j = i
          · subst e; exact h
          · exact H1.out j hj (by omega))
        generalize l[i] = x at hc HF HG
        obtain ⟨k, v, gn⟩ := x
        obtain ⟨c1, c2, c3⟩ := hc
        simp only at c1 c2 c3
        by_cases g1 : k.size ≤ 40
        · have d1 : decide ((40 : Int) < (k.size : Int)) = false := decide_eq_false (by omega)
          by_cases g2 : v.size ≤ 40
          · have d2 : decide ((40 : Int) < (v.size : Int)) = false := decide_eq_false (by omega)
            have HGo := Lib.hid (HG.out ⟨g1, g2⟩)
            clear g1 g2
            go_wp2
            go_round
            case rel => exact ⟨i + 1, by go_num, by omega, HGo⟩
            case measure => simp [intOf]; omega
          · have d2 : decide ((40 : Int) < (v.size : Int)) = true := decide_eq_true (by omega)
            have HX := Lib.hid (HF.out (fun h => g2 h.2))
            clear g1 g2
            go_wp2
            go_ret
            exact ⟨ret_i64 HX.out.symm, rfl⟩
        · have d1 : decide ((40 : Int) < (k.size : Int)) = true := decide_eq_true (by omega)
          have HX := Lib.hid (HF.out (fun h => g1 h.1))
          clear g1
          go_wp2
          go_ret
          exact ⟨ret_i64 HX.out.symm, rfl⟩
      · have i1 : ¬ (i : Int) < (l.length : Int) := by omega
        have HX := Lib.hid (HY.out (fun e he => by
          obtain ⟨j, hj, rfl⟩ := List.mem_iff_getElem.1 he
          exact H1.out j hj (by omega)))
        go_wp2
        go_ret
        exact ⟨ret_i64 HX.out.symm, rfl⟩
  · have HX := Lib.hid (fewE_no (l := l) (fun h => h0 h.1))
    have i0 : (70 : Int) < (l.length : Int) := by omega
    clear hE
    go_enter Try.func8, Try.ntmps8
    go_wp2
    go_ret
    exact ⟨ret_i64 HX.out.symm, rfl⟩
def Sp.brief (s : Sp) : Bool := decide (s.lo.size ≤ 40) && decide (s.hi.size ≤ 40)
theorem brief_yes {s : Sp} (h : s.brief = true) : s.lo.size ≤ 40 ∧ s.hi.size ≤ 40 := by simpa [Sp.brief] using h
theorem step_append_ents {ops : Array Oper} {o : Oper} {a : Act} {w : World} {K : Act → World → Prop} {Q : Exit → Act → World → Prop} {E : Prop}
    (hg : o.guard = none) (S T : Nat) (hST : (S = 25 ∧ T = 37) ∨ (S = 22 ∧ T = 53)) (s x : Operand) (hop : o.op = Op.call { callee := Callee.builtin Builtin.append, args := #[s, x], argTypes := #[S, S] })
    (base : Nat) (v : Value) (l m : List En) (hs : a.eval s = v) (hown : OwnE T w base v l)
    (ad : Addr) (c : Nat) (hx : a.eval x = .slice (some ad) m.length c) (hm : ∀ j u, (enRow m)[j]? = some u → w.cell? (ad.add j) = some u) (hb : l.length + m.length ≤ 100000000) (hbase : base ≤ w.heap.size)
    (hK : ∀ v' w', OwnE T w' base v' (l ++ m) → w.grownBy w' v.ownBlock → (v' = .slice none 0 0 ↔ v = .slice none 0 0 ∧ m.length = 0) → K (a.put o.dst v') w') :
    if Region.wanted o (yielded ops a.tmps) = true then Oper.wp Try.prog o a w K Q else E := by
  rw [if_pos (by simp [Region.wanted, hg])]
  exact append_ents S T hST s x hop base v l m hs hown ad c hx hm hb hbase hK
set_option maxHeartbeats 4000000 in
theorem lawof_any (a : Option Addr) (l : List En) (c : Nat) (w : World) (hl : l.length ≤ 1000000) (hE : Ents w a l) :
    Calls Try.prog 9 #[.slice a l.length c] w fun e w' => ∃ v, e = .returned v ∧ OwnE 37 w' w.heap.size v l ∧ Below w.heap.size w w' := by
  have HE := Lib.hid hE
  have HL : Hid (l.take l.length = l) := Lib.hid (by rw [List.take_length])
  clear hE
  go_enter Try.func9, Try.ntmps9
  go_wp2
  go_loopw [3, 4] (fun ov iv wr => ∃ i : Nat, iv = .int .i64 (i : Int) ∧ i ≤ l.length ∧ OwnE 37 wr w.heap.size ov (l.take i) ∧ Below w.heap.size w wr) (fun _ iv _ => l.length - (intOf iv).toNat)
  case atStart => exact ⟨0, rfl, by omega, OwnE.nil _ _ _, Below.refl _ _⟩
  case round =>
    obtain ⟨i, rfl, hil, hown, hb⟩ := hrel
    have sr := hb.size
    by_cases h1 : i < l.length
    · have i1 : (i : Int) < (l.length : Int) := by omega
      obtain ⟨eb, eo, rfl, heb, hc⟩ := HE.out.at h1
      have hc2 := hc.below hb heb
      have HT := Lib.hid (List.take_succ_eq_append_getElem h1)
      have hlen : (l.take i).length ≤ i := by rw [List.length_take]; omega
      clear hc
      generalize l[i] = x at hc2 HT
      obtain ⟨k, v, gn⟩ := x
      obtain ⟨c1, c2, c3⟩ := hc2
      simp only at c1 c2 c3
      generalize l.take i = acc at hown HT hlen
      go_wp2_with fail
      go_region_law (refine step_append_ents rfl 25 37 (.inl ⟨rfl, rfl⟩) (.tmp 11) (.tmp 28) rfl w.heap.size u3 acc [⟨k, v, gn⟩] (by simp [Act.eval]) (hown.alloc _) ⟨wr.heap.size, 0, none⟩ 1 (by simp [Act.eval]) (cells_new wr ⟨k, v, gn⟩ 37) (by simp; omega) (by simp; omega) ?_; intro v' w3 hown' hgrow _)
      all_goals
        have HO : Hid (OwnE 37 w3 w.heap.size v' (l.take (i + 1))) := Lib.hid (by rw [HT.out]; exact hown')
        have HB := Lib.hid (below_grown (drew_below (hb.alloc sr _)) (hown.alloc _) hgrow (by simp; omega))
        clear hown hown' hgrow hb
        go_wp2
        go_roundw
        case rel => exact ⟨i + 1, by go_num, by omega, HO.out, HB.out⟩
        case measure => simp [intOf]; omega
    · obtain rfl : i = l.length := by omega
      have i1 : ¬ (l.length : Int) < (l.length : Int) := by omega
      have HO : Hid (OwnE 37 wr w.heap.size u3 l) := Lib.hid (by rw [HL.out] at hown; exact hown)
      go_wp2
      go_ret
      exact ⟨_, rfl, HO.out, hb⟩
end Go.Proofs.Ythglldnhffkefaa
