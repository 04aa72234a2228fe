/- Rows of pairs of the call's own; what rev.Pairs makes of any revision, any span and any limit. Conditions: at most 1000000 entries. -/
import Derived.Test.YtkapjijppjfmkaaEWalkE
import Derived.Test.YtkapjijppjfmkaaEWalkK
import Derived.Test.YtkapjijppjfmkaaEWalkF
namespace Go.Proofs.Ytkapjijppjfmkaa
open Go.RowKit Go.Op
set_option maxRecDepth 100000

theorem info83 : (Try.prog.info? 83).map (fun i => (i.zero, i.size, i.bytes)) = some (some (.agg #[.string ⟨#[]⟩, .string ⟨#[]⟩]), 2, 32) := by kernel_rfl
theorem info84 : (Try.prog.info? 84).map (fun i => (i.zero, i.size, i.bytes)) = some (some (.agg #[.string ⟨#[]⟩, .string ⟨#[]⟩]), 2, 32) := by kernel_rfl
def pairRow (l : List En) : List Value := l.flatMap fun e => [.string e.key, .string e.val]
theorem pairRow_length : ∀ l : List En, (pairRow l).length = l.length * 2
  | [] => rfl
  | e :: l => by
    have := pairRow_length l
    simp only [pairRow, List.flatMap_cons, List.length_append, List.length_cons, List.length_nil] at *
    omega
theorem pairRow_append (l m : List En) : pairRow (l ++ m) = pairRow l ++ pairRow m := by simp [pairRow]
theorem pairRow_get : ∀ (l : List En) (k : Nat) (hk : k < l.length), (pairRow l)[k * 2]? = some (.string (l[k]'hk).key) ∧ (pairRow l)[k * 2 + 1]? = some (.string (l[k]'hk).val)
  | [], _, hk => by simp at hk
  | e :: l, 0, _ => by simp [pairRow]
  | e :: l, k + 1, hk => by
    have := pairRow_get l k (by simpa using hk)
    rw [show (k + 1) * 2 = k * 2 + 2 by omega]
    simp only [pairRow, List.flatMap_cons, List.cons_append, List.nil_append, List.getElem?_cons_succ, List.getElem_cons_succ]
    exact this
theorem pair_one {l : List En} : ∀ u ∈ pairRow l, u.oneCell' = true := by
  intro u hu
  simp only [pairRow, List.mem_flatMap] at hu
  obtain ⟨e, _, he⟩ := hu
  simp at he
  rcases he with rfl | rfl <;> rfl
/-- A row of pairs of the call's own. -/
def OwnP (T : Nat) (w : World) (base : Nat) (v : Value) (l : List En) : Prop := w.ownsRow base T 2 v l.length (pairRow l)
theorem OwnP.alloc {T : Nat} {w : World} {base : Nat} {v : Value} {l : List En} (h : OwnP T w base v l) (o : Obj) : OwnP T (w.alloc o) base v l := World.ownsRow.alloc h o
theorem OwnP.lt {T : Nat} {w : World} {base : Nat} {v : Value} {l : List En} (h : OwnP T w base v l) : ∀ k, v.ownBlock = some k → base ≤ k ∧ k < w.heap.size := World.ownsRow.lt h
theorem OwnP.below {T : Nat} {w w' : World} {base : Nat} {v : Value} {l : List En} (h : OwnP T w base v l) (hb : Below w.heap.size w w') : OwnP T w' base v l := by
  obtain ⟨h1, h2⟩ := h
  refine ⟨h1, ?_⟩
  rcases h2 with h2 | ⟨g, cap, cur, rfl, b, c, d⟩
  · exact .inl h2
  · exact .inr ⟨g, cap, cur, rfl, b, by rw [hb.block g (heap_lt c)]; exact c, d⟩
theorem OwnP.nil (T : Nat) (w : World) (base : Nat) : OwnP T w base (.slice none 0 0) [] := World.ownsRow_nil _ _ _ _
theorem OwnP.mono {T : Nat} {w : World} {base base' : Nat} {v : Value} {l : List En} (h : OwnP T w base v l) (hb : base' ≤ base) : OwnP T w base' v l := by
  obtain ⟨h1, h2⟩ := h
  refine ⟨h1, ?_⟩
  rcases h2 with h2 | ⟨g, cap, cur, rfl, b, c, d⟩
  · exact .inl h2
  · exact .inr ⟨g, cap, cur, rfl, by omega, c, d⟩
/-- Pairs that stand in memory. -/
def PairAt (w : World) (b o : Nat) (e : En) : Prop := w.cell? ⟨b, o, none⟩ = some (.string e.key) ∧ w.cell? ⟨b, o + 1, none⟩ = some (.string e.val)
def Prs (w : World) (a : Option Addr) (l : List En) : Prop :=
  l = [] ∨ ∃ b off, a = some ⟨b, off, none⟩ ∧ b < w.heap.size ∧ ∀ k (hk : k < l.length), PairAt w b (off + k * 2) (l[k]'hk)
theorem Prs.below {w w' : World} {a : Option Addr} {l : List En} (h : Prs w a l) (hb : Below w.heap.size w w') : Prs w' a l := by
  rcases h with rfl | ⟨b, off, rfl, hlt, hc⟩
  · exact .inl rfl
  · exact .inr ⟨b, off, rfl, Nat.lt_of_lt_of_le hlt hb.size, fun k hk => ⟨by rw [hb.cell (p := ⟨b, off + k * 2, none⟩) hlt]; exact (hc k hk).1, by rw [hb.cell (p := ⟨b, off + k * 2 + 1, none⟩) hlt]; exact (hc k hk).2⟩⟩
theorem OwnP.prs {T : Nat} {w : World} {base : Nat} {v : Value} {l : List En} (h : OwnP T w base v l) : ∃ a c, v = .slice a l.length c ∧ Prs w a l := by
  obtain ⟨h1, h2⟩ := h
  rcases h2 with ⟨rfl, h2⟩ | ⟨g, cap, cur, rfl, b, c, d⟩
  · have : l = [] := List.eq_nil_of_length_eq_zero h2
    subst this
    exact ⟨none, 0, rfl, .inl rfl⟩
  · refine ⟨some ⟨g, 0, none⟩, cap, rfl, .inr ⟨g, 0, rfl, heap_lt c, fun k hk => ?_⟩⟩
    have hh : w.ownsRow base T 2 (.slice (some ⟨g, 0, none⟩) l.length cap) l.length (pairRow l) := ⟨h1, .inr ⟨g, cap, cur, rfl, b, c, d⟩⟩
    obtain ⟨e1, e2⟩ := pairRow_get l k hk
    refine ⟨?_, ?_⟩
    · rw [hh.cellAt (0 + k * 2) (by omega), Nat.zero_add]; exact e1
    · rw [hh.cellAt (0 + k * 2 + 1) (by omega), Nat.zero_add]; exact e2
theorem append_pair {o : Oper} {a : Act} {w : World} {K : Act → World → Prop} {Q : Exit → Act → World → Prop} (S T : Nat) (hST : (S = 51 ∧ T = 83) ∨ (S = 53 ∧ T = 84)) (s x : Operand)
    (hop : o.op = Op.call { callee := Callee.builtin Builtin.append, args := #[s, x], argTypes := #[S, S] })
    (base : Nat) (v : Value) (l m : List En) (hs : a.eval s = v) (hown : OwnP T w base v l)
    (ad : Addr) (c : Nat) (hx : a.eval x = .slice (some ad) m.length c) (hm : ∀ j u, (pairRow m)[j]? = some u → w.cell? (ad.add j) = some u)
    (hb : l.length + m.length ≤ 100000000) (hbase : base ≤ w.heap.size)
    (hK : ∀ v' w', OwnP T w' base v' (l ++ m) → w.grownBy w' v.ownBlock → K (a.put o.dst v') w') :
    Oper.wp Try.prog o a w K Q := by
  have hK' : ∀ v' w', w'.ownsRow base T 2 v' (l.length + m.length) (pairRow l ++ pairRow m) → w.grownBy w' v.ownBlock → (v' = .slice none 0 0 ↔ v = .slice none 0 0 ∧ m.length = 0) → K (a.put o.dst v') w' := fun v' w' h1 h2 _ => by
    refine hK v' w' ?_ h2
    unfold OwnP
    rw [pairRow_append, List.length_append]
    exact h1
  rcases hST with ⟨rfl, rfl⟩ | ⟨rfl, rfl⟩
  · obtain ⟨i0, hi, hz0, hz1, hz2⟩ := info_parts info83
    exact wp_append_own w s x 51 hop base 83 i0 _ 2 32 Try.underlying51 hi hz0 hz1 hz2 rfl (by decide) v _ _ hs hown ad m.length c (pairRow m) hx (pairRow_length m) hm pair_one (by unfold maxLen; omega) (by omega) hbase hK'
  · obtain ⟨i0, hi, hz0, hz1, hz2⟩ := info_parts info84
    exact wp_append_own w s x 53 hop base 84 i0 _ 2 32 Try.underlying53 hi hz0 hz1 hz2 rfl (by decide) v _ _ hs hown ad m.length c (pairRow m) hx (pairRow_length m) hm pair_one (by unfold maxLen; omega) (by omega) hbase hK'
theorem wpList_append_pair {ops : Array Oper} {rest : List Oper} {o : Oper} {a : Act} {w : World} {Q : Exit → Act → World → Prop} (hg : o.guard = none) (S T : Nat) (hST : (S = 51 ∧ T = 83) ∨ (S = 53 ∧ T = 84)) (s x : Operand)
    (hop : o.op = Op.call { callee := Callee.builtin Builtin.append, args := #[s, x], argTypes := #[S, S] })
    (base : Nat) (v : Value) (l m : List En) (hs : a.eval s = v) (hown : OwnP T w base v l)
    (ad : Addr) (c : Nat) (hx : a.eval x = .slice (some ad) m.length c) (hm : ∀ j u, (pairRow m)[j]? = some u → w.cell? (ad.add j) = some u)
    (hb : l.length + m.length ≤ 100000000) (hbase : base ≤ w.heap.size)
    (hK : ∀ v' w', OwnP T w' base v' (l ++ m) → w.grownBy w' v.ownBlock → wpList Try.prog ops Q rest (a.put o.dst v') w') :
    wpList Try.prog ops Q (o :: rest) a w :=
  wpList_plain hg fun _ h => append_pair S T hST s x hop base v l m hs hown ad c hx hm hb hbase fun v' w' h1 h2 => h _ _ (hK v' w' h1 h2)
theorem step_append_pair {ops : Array Oper} {o : Oper} {a : Act} {w : World} {K : Act → World → Prop} {Q : Exit → Act → World → Prop} {E : Prop} (hg : o.guard = none) (S T : Nat) (hST : (S = 51 ∧ T = 83) ∨ (S = 53 ∧ T = 84)) (s x : Operand)
    (hop : o.op = Op.call { callee := Callee.builtin Builtin.append, args := #[s, x], argTypes := #[S, S] })
    (base : Nat) (v : Value) (l m : List En) (hs : a.eval s = v) (hown : OwnP T w base v l)
    (ad : Addr) (c : Nat) (hx : a.eval x = .slice (some ad) m.length c) (hm : ∀ j u, (pairRow m)[j]? = some u → w.cell? (ad.add j) = some u)
    (hb : l.length + m.length ≤ 100000000) (hbase : base ≤ w.heap.size)
    (hK : ∀ v' w', OwnP T w' base v' (l ++ m) → w.grownBy w' v.ownBlock → K (a.put o.dst v') w') :
    if Region.wanted o (yielded ops a.tmps) = true then Oper.wp Try.prog o a w K Q else E := by
  rw [if_pos (by simp [Region.wanted, hg])]
  exact append_pair S T hST s x hop base v l m hs hown ad c hx hm hb hbase hK
theorem pair_new (w : World) (e : En) (t : TypeId) : ∀ j u, (pairRow [e])[j]? = some u → (w.alloc (.cells #[.string e.key, .string e.val] t)).cell? ((⟨w.heap.size, 0, none⟩ : Addr).add j) = some u := by
  intro j u hj
  match j, hj with
  | 0, hj => simp [pairRow] at hj; subst hj; simp [Addr.add]
  | 1, hj => simp [pairRow] at hj; subst hj; simp [Addr.add]
  | (j + 2), hj => simp [pairRow] at hj
theorem below_pair {T : Nat} {B : Nat} {a w w' : World} {v : Value} {l : List En} (h : Below B a w) (hown : OwnP T w B v l) (hg : w.grownBy w' v.ownBlock) (hB : B ≤ w.heap.size) : Below B a w' :=
  h.grown hg hB (fun k hk => (hown.lt k hk).1)

def hasE (s : Sp) (e : En) : Bool := s.has e.key
def upTo (s : Sp) (L : List En) (i : Nat) : List En := (L.take i).filter (hasE s)
theorem upTo_step {s : Sp} {L : List En} {i : Nat} (hi : i < L.length) : upTo s L (i + 1) = if s.has L[i].key = true then upTo s L i ++ [L[i]] else upTo s L i := by
  unfold upTo
  rw [List.take_succ_eq_append_getElem hi, List.filter_append, List.filter_cons]
  by_cases h : s.has L[i].key = true
  · rw [if_pos h, if_pos (show hasE s L[i] = true from h)]; rfl
  · rw [if_neg h, if_neg (show ¬ hasE s L[i] = true from h)]; simp
theorem upTo_full {s : Sp} {L : List En} {i n : Nat} (h : (upTo s L i).length = n) : ((L.filter (hasE s)).take n) = upTo s L i := by
  have e : L.filter (hasE s) = upTo s L i ++ (L.drop i).filter (hasE s) := by
    unfold upTo
    rw [← List.filter_append, List.take_append_drop]
  rw [e, List.take_append_of_le_length (by omega), List.take_of_length_le (by omega)]
theorem upTo_len (s : Sp) (L : List En) (i : Nat) : (upTo s L i).length ≤ i := by
  unfold upTo
  have := List.length_filter_le (hasE s) (L.take i)
  rw [List.length_take] at this
  omega

set_option maxHeartbeats 4000000 in
theorem pairs_any (R : Rm) (rs : Rs) (s : Sp) (lim : Int) (w : World) (hl : R.l.length ≤ 1000000) (hR : RevAt w R rs) :
    Calls Try.prog 20 #[R.v rs, s.v, .int .i64 lim] w fun e w' => ∃ v, e = .returned v ∧ OwnP 83 w' w.heap.size v (pairsL R.l s lim.toNat) ∧ Below w.heap.size w w' := by
  have hlv := fun w' (hb : Below w.heap.size w w') => live_any R rs w' hl (hR.below hb)
  have HLV := Lib.hid hlv
  have HQ : Hid (pairsL R.l s lim.toNat = ((liveL R.l).filter (hasE s)).take lim.toNat) := Lib.hid rfl
  have hlen : (liveL R.l).length ≤ 1000000 := Nat.le_trans (List.length_filter_le _ _) hl
  have hh := fun k w => has_any s k w
  rw [HQ.out]
  clear hlv hR HQ
  obtain ⟨ver, rate, sp, dead, l, tab⟩ := R
  obtain ⟨rlo, rhi, rall⟩ := sp
  obtain ⟨ka, kc, va, vc, ga, gc, ta, tc⟩ := rs
  obtain ⟨lo, hi, all⟩ := s
  have B := ((Below.refl w.heap.size w).alloc (Nat.le_refl _) (.cells #[.int .i64 ver, .int .i64 rate, .string rlo, .string rhi, .bool rall, .bool dead, .slice ka l.length kc, .slice va l.length vc, .slice ga l.length gc, .slice ta tab.length tc] 33)).alloc (by simp) (.cells #[.string lo, .string hi, .bool all] 28)
  have ha := HLV.out _ B
  simp only [Rm.v, Sp.v] at hl hlen ha ⊢
  simp only [Sp.v] at hh
  have HB := Lib.hid B
  clear B HLV
  generalize liveL l = L at ha hlen
  obtain ⟨n, hn⟩ : ∃ n, n = lim.toNat := ⟨_, rfl⟩
  rw [← hn]
  have HN0 := Lib.hid hn
  clear hn
  have HS := Lib.hid (fun i (hi' : i < L.length) => upTo_step (s := ⟨lo, hi, all⟩) hi')
  have HU := Lib.hid (fun i (h : (upTo ⟨lo, hi, all⟩ L i).length = n) => upTo_full h)
  have HUn := Lib.hid (fun i => upTo_len ⟨lo, hi, all⟩ L i)
  have HU0 : Hid (upTo ⟨lo, hi, all⟩ L 0 = []) := Lib.hid rfl
  have HUl : Hid (upTo ⟨lo, hi, all⟩ L L.length = L.filter (hasE ⟨lo, hi, all⟩)) := Lib.hid (by unfold upTo; rw [List.take_length])
  go_enter Try.func20, Try.ntmps20
  go_wp2_with fail
  refine ha.mono ?_
  rintro e w1 ⟨g, rfl, hgw, o1, b1⟩
  simp at hgw
  have s1 := b1.size
  simp at s1
  have hg1 := o1.cap.2.2.2
  have HB1 := Lib.hid (HB.out.trans (b1.mono (by simp <;> omega)))
  have HSp : Hid (At (w.heap.size + 1) 0 ⟨lo, hi, all⟩ w1) := Lib.hid (by
    refine At.keep ?_ b1 (by simp)
    exact ⟨by simp [go_sem], by simp [go_sem], by simp [go_sem]⟩)
  have HE1 := Lib.hid o1.ents2
  clear o1 b1 ha
  go_wp2
  go_loopw [7, 13] (fun ov iv wr => ∃ (i : Nat) (acc : List En), iv = .int .i64 (i : Int) ∧ i ≤ L.length ∧ Hid (acc = upTo ⟨lo, hi, all⟩ L i) ∧ acc.length ≤ n ∧ Hid (OwnP 83 wr w1.heap.size ov acc) ∧ Hid (Below w1.heap.size w1 wr)) (fun _ iv _ => L.length - (intOf iv).toNat)
  case atStart => exact ⟨0, [], rfl, by omega, Lib.hid HU0.out.symm, by simp, Lib.hid (OwnP.nil _ _ _), Lib.hid (Below.refl _ _)⟩
  case round =>
    obtain ⟨i, acc, rfl, hil, HA, hun, HO, HBr⟩ := hrel
    have sr := HBr.out.size
    have hlt' : w.heap.size + 1 < wr.heap.size := by omega
    obtain ⟨oa, oc, rfl, _⟩ := HO.out.prs
    have hui : acc.length ≤ i := by rw [HA.out]; exact HUn.out i
    have HUi : Hid (acc.length = n → (L.filter (hasE ⟨lo, hi, all⟩)).take n = acc) := Lib.hid (fun h => by rw [HA.out]; exact HU.out i (by rw [← HA.out]; exact h))
    by_cases h1 : i < L.length
    · have i1 : (i : Int) < (L.length : Int) := by omega
      obtain ⟨eb, eo, h9, heb, hc⟩ := HE1.out.at h1
      cases h9
      have hc2 := hc.below HBr.out heb
      obtain ⟨p1, p2, p3⟩ := At.keep HSp.out HBr.out (by omega)
      simp only [Nat.zero_add] at p1 p2 p3 hc2
      have HSi := Lib.hid (HS.out i h1)
      clear hc
      generalize L[i] = x at hc2 HSi
      obtain ⟨k, v, gn⟩ := x
      obtain ⟨c1, c2, c3⟩ := hc2
      simp only at c1 c2 c3
      by_cases hlim : lim ≤ (acc.length : Int)
      · have HX : Hid ((L.filter (hasE ⟨lo, hi, all⟩)).take n = acc) := Lib.hid (HUi.out (by have := HN0.out; omega))
        have HF : Hid (OwnP 83 (wr.alloc (.cells #[.string k, .string v, .bool gn] 72)) w.heap.size (.slice oa acc.length oc) ((L.filter (hasE ⟨lo, hi, all⟩)).take n)) := Lib.hid (by rw [HX.out]; exact (HO.out.alloc _).mono (by omega))
        go_wp2
        go_ret
        exact ⟨.slice oa acc.length oc, rfl, HF.out, HB1.out.trans ((HBr.out.alloc sr _).mono (by omega))⟩
      · have hlt : acc.length < n := by have := HN0.out; omega
        have hhk := hh k
        cases hhas : (Sp.mk lo hi all).has k with
        | true =>
          rw [hhas] at hhk
          obtain ⟨acc2, hacc2⟩ : ∃ acc2, acc2 = acc ++ [(⟨k, v, gn⟩ : En)] := ⟨_, rfl⟩
          have HN := Lib.hid hacc2
          have HEq2 : Hid (acc2 = upTo ⟨lo, hi, all⟩ L (i + 1)) := Lib.hid (by rw [HSi.out, if_pos hhas, ← HA.out]; exact hacc2)
          have hlt2 : acc2.length ≤ n := by rw [hacc2, List.length_append]; simp; omega
          clear hacc2
          go_wp2_with fail
          refine (hhk _).mono ?_
          rintro e w2 ⟨rfl, b2⟩
          have s2 := b2.size
          simp at s2
          have d1 : w2.cell? ⟨wr.heap.size, 0, none⟩ = some (.string k) := keep b2 (by simp [go_sem]) (by simp)
          have d2 : w2.cell? ⟨wr.heap.size, 1, none⟩ = some (.string v) := keep b2 (by simp [go_sem]) (by simp)
          have HO2 := Lib.hid ((HO.out.alloc (.cells #[.string k, .string v, .bool gn] 72)).below b2)
          have HB2 := Lib.hid ((HBr.out.alloc sr (.cells #[.string k, .string v, .bool gn] 72)).trans (b2.mono (by simp; omega)))
          clear b2 HO HBr
          go_wp2_with (at_builtin; refine wpList_append_pair rfl 51 83 (.inl ⟨rfl, rfl⟩) (.tmp 25) (.tmp 31) rfl w1.heap.size (.slice oa acc.length oc) acc [⟨k, v, gn⟩] rfl (HO2.out.alloc _) ⟨w2.heap.size, 0, none⟩ 1 rfl (pair_new w2 ⟨k, v, gn⟩ 83) (by simp; omega) (by simp; omega) ?_; intro v7 w7 hown hgrow)
          have HO7 : Hid (OwnP 83 w7 w1.heap.size v7 acc2) := Lib.hid (by rw [HN.out]; exact hown)
          have HB7 := Lib.hid (below_pair (HB2.out.alloc (by omega) _) (HO2.out.alloc _) hgrow (by simp; omega))
          clear hown hgrow
          go_wp2
          go_roundw
          case rel => exact ⟨i + 1, acc2, by go_num, by omega, HEq2, hlt2, HO7, HB7⟩
          case measure => simp [intOf]; omega
        | false =>
          rw [hhas] at hhk
          have HN : Hid (acc = upTo ⟨lo, hi, all⟩ L (i + 1)) := Lib.hid (by rw [HSi.out, if_neg (by rw [hhas]; simp), HA.out])
          go_wp2_with fail
          refine (hhk _).mono ?_
          rintro e w2 ⟨rfl, b2⟩
          have s2 := b2.size
          simp at s2
          have HO2 := Lib.hid ((HO.out.alloc (.cells #[.string k, .string v, .bool gn] 72)).below b2)
          have HB2 := Lib.hid ((HBr.out.alloc sr (.cells #[.string k, .string v, .bool gn] 72)).trans (b2.mono (by simp; omega)))
          clear b2 HO HBr
          go_wp2
          go_roundw
          case rel => exact ⟨i + 1, acc, by go_num, by omega, HN, hun, HO2, HB2⟩
          case measure => simp [intOf]; omega
    · obtain rfl : i = L.length := by omega
      have i1 : ¬ (L.length : Int) < (L.length : Int) := by omega
      have HF : Hid (OwnP 83 wr w.heap.size (.slice oa acc.length oc) ((L.filter (hasE ⟨lo, hi, all⟩)).take n)) := Lib.hid (by
        have h9 : L.filter (hasE ⟨lo, hi, all⟩) = acc := by rw [HA.out, HUl.out]
        rw [h9, List.take_of_length_le hun]
        exact HO.out.mono (by omega))
      go_wp2
      go_ret
      exact ⟨.slice oa acc.length oc, rfl, HF.out, HB1.out.trans (HBr.out.mono (by omega))⟩
end Go.Proofs.Ytkapjijppjfmkaa
