/- What fresh and Sorted make of any entries: rows of the call's own. Condition: at most 1000000 entries. -/
import Derived.Test.YthglldnhffkefaaSWalkJ
namespace Go.Proofs.Ythglldnhffkefaa
open Go.RowKit Go.Op Go.Sort
set_option maxRecDepth 100000

theorem wpList_append_ents {ops : Array Oper} {rest : List Oper} {o : Oper} {a : Act} {w : World} {Q : Exit → Act → World → Prop} (hg : o.guard = none) (S T : Nat) (hST : (S = 25 ∧ T = 37) ∨ (S = 22 ∧ T = 53)) (s x : Operand)
    (hop : o.op = Op.call { callee := Callee.builtin Builtin.append, args := #[s, x], argTypes := #[S, S] })
    (base : Nat) (v : Value) (l m : List En) (hs : a.eval s = v) (hown : OwnE T w base v l)
    (ad : Addr) (c : Nat) (hx : a.eval x = .slice (some ad) m.length c) (hm : ∀ j u, (enRow m)[j]? = some u → w.cell? (ad.add j) = some u)
    (hb : l.length + m.length ≤ 100000000) (hbase : base ≤ w.heap.size)
    (hK : ∀ v' w', OwnE T w' base v' (l ++ m) → w.grownBy w' v.ownBlock → (v' = .slice none 0 0 ↔ v = .slice none 0 0 ∧ m.length = 0) → wpList Try.prog ops Q rest (a.put o.dst v') w') :
    wpList Try.prog ops Q (o :: rest) a w :=
  wpList_plain hg fun _ h => append_ents S T hST s x hop base v l m hs hown ad c hx hm hb hbase fun v' w' h1 h2 h3 => h _ _ (hK v' w' h1 h2 h3)
theorem below_grown {T : Nat} {B : Nat} {a w w' : World} {v : Value} {l : List En} (h : Below B a w) (hown : OwnE T w B v l) (hg : w.grownBy w' v.ownBlock) (hB : B ≤ w.heap.size) : Below B a w' :=
  h.grown hg hB (fun k hk => (hown.lt k hk).1)
theorem news_any {w : World} {ad : Addr} {m : List En} (hm : Ents w (some ad) m) : ∀ j u, (enRow m)[j]? = some u → w.cell? (ad.add j) = some u := by
  by_cases h0 : m = []
  · subst h0
    intro j u h
    simp [enRow] at h
  · obtain ⟨g, o, e, h⟩ := news_of hm h0
    cases e
    exact h

set_option maxHeartbeats 1000000 in
theorem fresh_any (a : Option Addr) (l : List En) (c : Nat) (w : World) (hl : l.length ≤ 1000000) (hE : Ents w a l) (hc : a = none → c = 0) :
    Calls Try.prog 25 #[.slice a l.length c] w fun e w' => ∃ v, e = .returned v ∧ OwnE 37 w' w.heap.size v l ∧ (v = .slice none 0 0 ↔ l = []) ∧ Below w.heap.size w w' := by
  cases a with
  | none =>
    have hl0 : l = [] := by
      rcases hE with h | ⟨b, off, h, _⟩
      · exact h
      · cases h
    subst hl0
    obtain rfl := hc rfl
    obtain ⟨i0, hi, _, _, _⟩ := info_parts info37
    go_enter Try.func25, Try.ntmps25
    go_wp2_with (at_builtin; refine wpList_append_own_none rfl (.const (.slice none 0 0)) (.tmp 3) 25 rfl w.heap.size 37 i0 3 Try.underlying25 hi (.slice none 0 0) 0 [] rfl (World.ownsRow_nil _ _ _ _) rfl ?_)
    go_ret
    exact ⟨_, rfl, OwnE.nil _ _ _, rfl, Below.refl _ _⟩
  | some ad =>
    have HE := Lib.hid (news_any hE)
    clear hE hc
    go_enter Try.func25, Try.ntmps25
    go_wp2_with (at_builtin; refine wpList_append_ents rfl 25 37 (.inl ⟨rfl, rfl⟩) (.const (.slice none 0 0)) (.tmp 3) rfl w.heap.size (.slice none 0 0) [] l rfl (OwnE.nil _ _ _) ad c rfl HE.out (by simp; omega) (Nat.le_refl _) ?_; intro v' w3 hown' hgrow hnil)
    have HO : Hid (OwnE 37 w3 w.heap.size v' l) := Lib.hid (by simpa using hown')
    have HN : Hid (v' = .slice none 0 0 ↔ l = []) := Lib.hid (by rw [hnil]; simp)
    have HB := Lib.hid (below_grown (Below.refl w.heap.size w) (OwnE.nil 37 w w.heap.size) hgrow (Nat.le_refl _))
    clear hown' hgrow hnil
    go_wp2
    go_ret
    exact ⟨_, rfl, HO.out, HN.out, HB.out⟩

set_option maxHeartbeats 1000000 in
theorem sorted_any (a : Option Addr) (l : List En) (c : Nat) (w : World) (hl : l.length ≤ 1000000) (hE : Ents w a l) (hc : a = none → c = 0) :
    Calls Try.prog 13 #[.slice a l.length c] w fun e w' => ∃ v, e = .returned v ∧ OwnE 37 w' w.heap.size v (sortL l) ∧ (v = .slice none 0 0 ↔ l = []) ∧ Below w.heap.size w w' := by
  have hf := fresh_any a l c w hl hE hc
  clear hE hc
  go_enter Try.func13, Try.ntmps13
  go_wp2_with fail
  refine hf.mono ?_
  rintro e w1 ⟨v, rfl, ho, hn, b1⟩
  have ho' := ho
  obtain ⟨h1, h2⟩ := ho'
  rcases h2 with ⟨rfl, h2⟩ | ⟨g, cap, cur, rfl, hg, _⟩
  · have h0 : l = [] := List.eq_nil_of_length_eq_zero h2
    subst h0
    have HB := Lib.hid b1
    clear ho hn b1 h1 hf
    go_wp2_with fail
    refine (sortstable_none _).mono ?_
    rintro e w2 ⟨rfl, rfl⟩
    go_wp2
    go_ret
    exact ⟨_, rfl, OwnE.nil _ _ _, rfl, HB.out⟩
  · obtain ⟨hs, hr⟩ := own_start ho
    have HS := Lib.hid (sortstable_any w1 g cap l.length l w1 hs (by omega) rfl hr)
    have HO := Lib.hid (fun (W : World) hW => own_back (W := W) ho (sort_length l) hW)
    have HB := Lib.hid b1
    have HN := Lib.hid hn
    clear ho hn b1 h1 hf hs hr
    go_wp2_with fail
    refine HS.out.mono ?_
    rintro e w2 ⟨rfl, h3⟩
    have HF := Lib.hid (HO.out _ h3)
    clear h3
    go_wp2
    go_ret
    exact ⟨_, rfl, by rw [← sort_length l] at HF ⊢; exact HF.out.1, HN.out, HB.out.trans HF.out.2⟩
end Go.Proofs.Ythglldnhffkefaa
