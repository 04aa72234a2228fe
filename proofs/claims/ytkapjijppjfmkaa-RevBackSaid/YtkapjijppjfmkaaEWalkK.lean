/- What the reference's Live and the law's Of make of any entries: rows of the call's own. Conditions: at most 1000000 entries. -/
import Derived.Test.YtkapjijppjfmkaaEWalkC
import Derived.Deep.RegionLaw
namespace Go.Proofs.Ytkapjijppjfmkaa
open Go.RowKit Go.Op
set_option maxRecDepth 100000

theorem wpList_append_ents {ops : Array Oper} {rest : List Oper} {o : Oper} {a : Act} {w : World} {Q : Exit → Act → World → Prop} (hg : o.guard = none) (S T : Nat) (hST : (S = 38 ∧ T = 72) ∨ (S = 24 ∧ T = 62)) (s x : Operand)
    (hop : o.op = Op.call { callee := Callee.builtin Builtin.append, args := #[s, x], argTypes := #[S, S] })
    (base : Nat) (v : Value) (l m : List En) (hs : a.eval s = v) (hown : OwnE T w base v l)
    (ad : Addr) (c : Nat) (hx : a.eval x = .slice (some ad) m.length c) (hm : ∀ j u, (enRow m)[j]? = some u → w.cell? (ad.add j) = some u)
    (hb : l.length + m.length ≤ 100000000) (hbase : base ≤ w.heap.size)
    (hK : ∀ v' w', OwnE T w' base v' (l ++ m) → w.grownBy w' v.ownBlock → (v' = .slice none 0 0 ↔ v = .slice none 0 0 ∧ m.length = 0) → wpList Try.prog ops Q rest (a.put o.dst v') w') :
    wpList Try.prog ops Q (o :: rest) a w :=
  wpList_plain hg fun _ h => append_ents S T hST s x hop base v l m hs hown ad c hx hm hb hbase fun v' w' h1 h2 h3 => h _ _ (hK v' w' h1 h2 h3)
theorem step_append_ents {ops : Array Oper} {o : Oper} {a : Act} {w : World} {K : Act → World → Prop} {Q : Exit → Act → World → Prop} {E : Prop}
    (hg : o.guard = none) (S T : Nat) (hST : (S = 38 ∧ T = 72) ∨ (S = 24 ∧ T = 62)) (s x : Operand) (hop : o.op = Op.call { callee := Callee.builtin Builtin.append, args := #[s, x], argTypes := #[S, S] })
    (base : Nat) (v : Value) (l m : List En) (hs : a.eval s = v) (hown : OwnE T w base v l)
    (ad : Addr) (c : Nat) (hx : a.eval x = .slice (some ad) m.length c) (hm : ∀ j u, (enRow m)[j]? = some u → w.cell? (ad.add j) = some u) (hb : l.length + m.length ≤ 100000000) (hbase : base ≤ w.heap.size)
    (hK : ∀ v' w', OwnE T w' base v' (l ++ m) → w.grownBy w' v.ownBlock → (v' = .slice none 0 0 ↔ v = .slice none 0 0 ∧ m.length = 0) → K (a.put o.dst v') w') :
    if Region.wanted o (yielded ops a.tmps) = true then Oper.wp Try.prog o a w K Q else E := by
  rw [if_pos (by simp [Region.wanted, hg])]
  exact append_ents S T hST s x hop base v l m hs hown ad c hx hm hb hbase hK
theorem below_grown {T : Nat} {B : Nat} {a w w' : World} {v : Value} {l : List En} (h : Below B a w) (hown : OwnE T w B v l) (hg : w.grownBy w' v.ownBlock) (hB : B ≤ w.heap.size) : Below B a w' :=
  h.grown hg hB (fun k hk => (hown.lt k hk).1)

set_option maxHeartbeats 2000000 in
theorem reflive_any (a : Option Addr) (l : List En) (c : Nat) (w : World) (hl : l.length ≤ 1000000) (hE : Ents w a l) :
    Calls Try.prog 18 #[.slice a l.length c] w fun e w' => ∃ v, e = .returned v ∧ OwnE 62 w' w.heap.size v (liveL l) ∧ Below w.heap.size w w' := by
  have HE := Lib.hid hE
  have HL : Hid (liveL (l.take l.length) = liveL l) := Lib.hid (by rw [List.take_length])
  clear hE
  go_enter Try.func18, Try.ntmps18
  go_wp2
  go_loopw [3, 4] (fun ov iv wr => ∃ i : Nat, iv = .int .i64 (i : Int) ∧ i ≤ l.length ∧ OwnE 62 wr w.heap.size ov (liveL (l.take i)) ∧ Below w.heap.size w wr) (fun _ iv _ => l.length - (intOf iv).toNat)
  case atStart => exact ⟨0, rfl, by omega, OwnE.nil _ _ _, Below.refl _ _⟩
  case round =>
    obtain ⟨i, rfl, hil, hown, hb⟩ := hrel
    have sr := hb.size
    by_cases h1 : i < l.length
    · have i1 : (i : Int) < (l.length : Int) := by omega
      obtain ⟨eb, eo, rfl, heb, hc⟩ := HE.out.at h1
      have hc2 := hc.below hb heb
      have HT := Lib.hid (live_take h1)
      have hlen : (liveL (l.take i)).length ≤ i := by
        have := List.length_filter_le (fun e : En => !e.gone) (l.take i)
        rw [List.length_take] at this
        unfold liveL
        omega
      clear hc
      generalize l[i] = x at hc2 HT
      obtain ⟨k, v, gn⟩ := x
      obtain ⟨c1, c2, c3⟩ := hc2
      simp only at c1 c2 c3
      cases gn with
      | true =>
        have HO : Hid (OwnE 62 wr w.heap.size u3 (liveL (l.take (i + 1)))) := Lib.hid (by rw [HT.out]; exact hown)
        go_wp2
        go_roundw
        case rel => exact ⟨i + 1, by go_num, by omega, HO.out, hb⟩
        case measure => simp [intOf]; omega
      | false =>
        generalize liveL (l.take i) = acc at hown HT hlen
        go_wp2_with (at_builtin; refine wpList_append_ents rfl 24 62 (.inr ⟨rfl, rfl⟩) (.tmp 17) (.tmp 22) rfl w.heap.size u3 acc [⟨k, v, false⟩] rfl (hown.alloc _) ⟨wr.heap.size, 0, none⟩ 1 rfl (cells_new wr ⟨k, v, false⟩ 62) (by simp; omega) (by simp; omega) ?_; intro v' w3 hown' hgrow _)
        have HO : Hid (OwnE 62 w3 w.heap.size v' (liveL (l.take (i + 1)))) := Lib.hid (by rw [HT.out]; exact hown')
        have HB := Lib.hid (below_grown (hb.alloc sr _) (hown.alloc _) hgrow (by simp; omega))
        clear hown hown' hgrow hb
        go_wp2
        go_roundw
        case rel => exact ⟨i + 1, by go_num, by omega, HO.out, HB.out⟩
        case measure => simp [intOf]; omega
    · obtain rfl : i = l.length := by omega
      have i1 : ¬ (l.length : Int) < (l.length : Int) := by omega
      have HO : Hid (OwnE 62 wr w.heap.size u3 (liveL l)) := Lib.hid (by rw [← HL.out]; exact hown)
      go_wp2
      go_ret
      exact ⟨_, rfl, HO.out, hb⟩

set_option maxHeartbeats 4000000 in
theorem lawof_any (a : Option Addr) (l : List En) (c : Nat) (w : World) (hl : l.length ≤ 1000000) (hE : Ents w a l) :
    Calls Try.prog 12 #[.slice a l.length c] w fun e w' => ∃ v, e = .returned v ∧ OwnE 72 w' w.heap.size v l ∧ Below w.heap.size w w' := by
  have HE := Lib.hid hE
  have HL : Hid (l.take l.length = l) := Lib.hid (by rw [List.take_length])
  clear hE
  go_enter Try.func12, Try.ntmps12
  go_wp2
  go_loopw [3, 4] (fun ov iv wr => ∃ i : Nat, iv = .int .i64 (i : Int) ∧ i ≤ l.length ∧ OwnE 72 wr w.heap.size ov (l.take i) ∧ Below w.heap.size w wr) (fun _ iv _ => l.length - (intOf iv).toNat)
  case atStart => exact ⟨0, rfl, by omega, OwnE.nil _ _ _, Below.refl _ _⟩
  case round =>
    obtain ⟨i, rfl, hil, hown, hb⟩ := hrel
    have sr := hb.size
    by_cases h1 : i < l.length
    · have i1 : (i : Int) < (l.length : Int) := by omega
      obtain ⟨eb, eo, rfl, heb, hc⟩ := HE.out.at h1
      have hc2 := hc.below hb heb
      have HT := Lib.hid (List.take_succ_eq_append_getElem h1)
      have hlen : (l.take i).length ≤ i := by rw [List.length_take]; omega
      clear hc
      generalize l[i] = x at hc2 HT
      obtain ⟨k, v, gn⟩ := x
      obtain ⟨c1, c2, c3⟩ := hc2
      simp only at c1 c2 c3
      generalize l.take i = acc at hown HT hlen
      go_wp2_with fail
      go_region_law (refine step_append_ents rfl 38 72 (.inl ⟨rfl, rfl⟩) (.tmp 11) (.tmp 28) rfl w.heap.size u3 acc [⟨k, v, gn⟩] (by simp [Act.eval]) (hown.alloc _) ⟨wr.heap.size, 0, none⟩ 1 (by simp [Act.eval]) (cells_new wr ⟨k, v, gn⟩ 72) (by simp; omega) (by simp; omega) ?_; intro v' w3 hown' hgrow _)
      all_goals
        have HO : Hid (OwnE 72 w3 w.heap.size v' (l.take (i + 1))) := Lib.hid (by rw [HT.out]; exact hown')
        have HB := Lib.hid (below_grown (drew_below (hb.alloc sr _)) (hown.alloc _) hgrow (by simp; omega))
        clear hown hown' hgrow hb
        go_wp2
        go_roundw
        case rel => exact ⟨i + 1, by go_num, by omega, HO.out, HB.out⟩
        case measure => simp [intOf]; omega
    · obtain rfl : i = l.length := by omega
      have i1 : ¬ (l.length : Int) < (l.length : Int) := by omega
      have HO : Hid (OwnE 72 wr w.heap.size u3 l) := Lib.hid (by rw [HL.out] at hown; exact hown)
      go_wp2
      go_ret
      exact ⟨_, rfl, HO.out, hb⟩
end Go.Proofs.Ytkapjijppjfmkaa
