/- Mathematics of entries: which may be, which rise, what a key has, changes. No condition. -/
import Derived.Test.YtjlifkhpohfiaaaEMem
namespace Go.Proofs.Ytjlifkhpohfiaaa
open Go.Op
set_option maxRecDepth 100000

/-- May the entry at a place stand there? -/
def okAt (s : Sp) (l : List En) (i : Nat) : Bool := match l[i]? with
  | .none => true
  | some e => (i == 0 || match l[i - 1]? with
    | .none => true
    | some p => lt p.key e.key) && s.has e.key && !(e.gone && !(e.val.size == 0))
def rightB (s : Sp) (l : List En) : Bool := (List.range l.length).all (okAt s l)
theorem right_no {s : Sp} {l : List En} {i : Nat} (hi : i < l.length) (h : okAt s l i = false) : rightB s l = false := by
  rw [Bool.eq_false_iff]
  intro h2
  unfold rightB at h2
  rw [List.all_eq_true] at h2
  rw [h2 i (List.mem_range.2 hi)] at h
  cases h
theorem right_yes {s : Sp} {l : List En} (h : ∀ i, i < l.length → okAt s l i = true) : rightB s l = true := by
  unfold rightB
  rw [List.all_eq_true]
  intro i hi
  exact h i (List.mem_range.1 hi)
theorem right_at {s : Sp} {l : List En} (h : rightB s l = true) {i : Nat} (hi : i < l.length) : okAt s l i = true := by
  unfold rightB at h
  rw [List.all_eq_true] at h
  exact h i (List.mem_range.2 hi)
/-- Keys rise. -/
def Rise (l : List En) : Prop := l.Pairwise fun a b => lt a.key b.key = true
theorem okAt_eq {s : Sp} {l : List En} {i : Nat} (hi : i < l.length) : okAt s l i = ((i == 0 || lt (l[i - 1]'(by omega)).key l[i].key) && s.has l[i].key && !(l[i].gone && !(l[i].val.size == 0))) := by
  unfold okAt
  rw [List.getElem?_eq_getElem hi, List.getElem?_eq_getElem (show i - 1 < l.length by omega)]
theorem rise_of {s : Sp} {l : List En} (h : rightB s l = true) : Rise l := by
  unfold Rise
  rw [List.pairwise_iff_getElem]
  have step : ∀ i (hi : i + 1 < l.length), lt (l[i]'(by omega)).key l[i + 1].key = true := fun i hi => by
    have := right_at h hi
    rw [okAt_eq hi] at this
    simp only [Bool.and_eq_true, Bool.or_eq_true] at this
    rcases this.1.1 with h1 | h1
    · simp at h1
    · exact h1
  intro i j hi hj hij
  induction j with
  | zero => omega
  | succ j ih =>
    by_cases e : i = j
    · subst e
      exact step i hj
    · exact lt_trans (ih (by omega) (by omega)) (step j hj)
theorem has_of {s : Sp} {l : List En} (h : rightB s l = true) {e : En} (he : e ∈ l) : s.has e.key = true ∧ (e.gone = true → e.val.size = 0) := by
  obtain ⟨i, hi, rfl⟩ := List.mem_iff_getElem.1 he
  have := right_at h hi
  rw [okAt_eq hi] at this
  simp only [Bool.and_eq_true] at this
  refine ⟨this.1.2, fun hg => ?_⟩
  have h2 := this.2
  rw [hg] at h2
  simpa using h2

/-- The entry of a key. -/
def getE (l : List En) (k : ByteArray) : Option En := l.find? fun e => decide (e.key = k)
def valO : Option En → ByteArray × Bool
  | some e => if e.gone then (no, false) else (e.val, true)
  | .none => (no, false)
def getV (l : List En) (k : ByteArray) : ByteArray × Bool := valO (getE l k)
def liveL (l : List En) : List En := l.filter fun e => !e.gone
def before (k : ByteArray) (e : En) : Bool := lt e.key k
def withL (l : List En) (e : En) : List En := l.takeWhile (before e.key) ++ e :: (l.dropWhile (before e.key)).filter fun x => decide (x.key ≠ e.key)
def changedL (l m : List En) : List En := m.foldl withL l
/-- Behind a key, and without it. -/
def past (k : ByteArray) (l : List En) : List En := match l.dropWhile (before k) with
  | [] => []
  | e :: r => if e.key = k then r else e :: r
def mergeL : List En → List En → List En
  | l, [] => l
  | l, c :: m => l.takeWhile (before c.key) ++ c :: mergeL (past c.key l) m
def pairsL (l : List En) (s : Sp) (n : Nat) : List En := ((liveL l).filter fun e => s.has e.key).take n

theorem take_imp {p : En → Bool} : ∀ {l : List En} {x : En}, x ∈ l.takeWhile p → p x = true
  | [], _, h => by simp at h
  | y :: l, x, h => by
    rw [List.takeWhile_cons] at h
    by_cases hy : p y = true
    · rw [if_pos hy] at h
      rcases List.mem_cons.1 h with rfl | h
      · exact hy
      · exact take_imp h
    · rw [if_neg hy] at h
      simp at h
theorem getE_with (l : List En) (e : En) (k : ByteArray) : getE (withL l e) k = if e.key = k then some e else getE l k := by
  unfold getE withL
  rw [List.find?_append, List.find?_cons]
  by_cases h : e.key = k
  · subst h
    rw [if_pos rfl]
    have : (l.takeWhile (before e.key)).find? (fun x => decide (x.key = e.key)) = .none := by
      rw [List.find?_eq_none]
      intro x hx
      have := take_imp hx
      unfold before at this
      simp only [decide_eq_true_eq]
      intro e2
      rw [e2, lt_irr] at this
      cases this
    rw [this]
    simp
  · rw [if_neg h]
    simp only [h, decide_false]
    have hd : ∀ m : List En, (m.filter fun x => decide (x.key ≠ e.key)).find? (fun x => decide (x.key = k)) = m.find? (fun x => decide (x.key = k)) := fun m => by
      rw [List.find?_filter]
      congr 1
      funext x
      by_cases hx : x.key = k
      · have : x.key ≠ e.key := by rw [hx]; exact fun e2 => h e2.symm
        simp only [hx] at this
        simp [hx, this]
      · simp [hx]
    rw [hd, ← List.find?_append, List.takeWhile_append_dropWhile]
theorem getE_changed (m : List En) (k : ByteArray) : ∀ l : List En, getE (changedL l m) k = m.foldl (fun a e => if e.key = k then some e else a) (getE l k) := by
  induction m with
  | nil => intro l; rfl
  | cons e m ih =>
    intro l
    unfold changedL at ih ⊢
    rw [List.foldl_cons, ih, getE_with, List.foldl_cons]
theorem rise_take {l : List En} {p : En → Bool} (h : Rise l) : Rise (l.takeWhile p) := List.Pairwise.sublist (List.takeWhile_sublist p) h
theorem rise_drop {l : List En} {p : En → Bool} (h : Rise l) : Rise (l.dropWhile p) := List.Pairwise.sublist (List.dropWhile_sublist p) h
theorem drop_ge {k : ByteArray} : ∀ {l : List En}, Rise l → ∀ e ∈ l.dropWhile (before k), lt e.key k = false
  | [], _, e, h => by simp at h
  | x :: l, hr, e, h => by
    rw [List.dropWhile_cons] at h
    by_cases hx : before k x = true
    · rw [if_pos hx] at h
      exact drop_ge (List.Pairwise.of_cons hr) e h
    · rw [if_neg hx] at h
      unfold before at hx
      rcases List.mem_cons.1 h with rfl | h
      · simpa using hx
      · have h1 : lt x.key e.key = true := List.rel_of_pairwise_cons hr h
        cases h2 : lt e.key k with
        | false => rfl
        | true => rw [lt_trans h1 h2] at hx; simp at hx
theorem past_eq {k : ByteArray} {l : List En} (h : Rise l) : past k l = (l.dropWhile (before k)).filter fun x => decide (x.key ≠ k) := by
  unfold past
  have hr := rise_drop (p := before k) h
  have hg := drop_ge (k := k) h
  generalize l.dropWhile (before k) = d at hr hg
  cases d with
  | nil => rfl
  | cons e r =>
    have hne : ∀ x ∈ r, x.key ≠ k := fun x hx e2 => by
      have h1 : lt e.key x.key = true := List.rel_of_pairwise_cons hr hx
      rw [e2, hg e (List.mem_cons_self ..)] at h1
      cases h1
    have hf : r.filter (fun x => decide (x.key ≠ k)) = r := List.filter_eq_self.2 fun x hx => by simpa using hne x hx
    simp only
    rw [List.filter_cons, hf]
    by_cases e2 : e.key = k
    · rw [if_pos e2, if_neg (by simp [e2])]
    · rw [if_neg e2, if_pos (by simp [e2])]
theorem with_past {l : List En} (h : Rise l) (e : En) : withL l e = l.takeWhile (before e.key) ++ e :: past e.key l := by
  unfold withL
  rw [past_eq h]
theorem past_rise {k : ByteArray} {l : List En} (h : Rise l) : Rise (past k l) ∧ ∀ x ∈ past k l, lt k x.key = true := by
  rw [past_eq h]
  refine ⟨List.Pairwise.sublist (List.filter_sublist) (rise_drop h), fun x hx => ?_⟩
  obtain ⟨h1, h2⟩ := List.mem_filter.1 hx
  have h3 := drop_ge h x h1
  cases h4 : lt k x.key with
  | true => rfl
  | false => exact absurd (lt_total h3 h4) (by simpa using h2)
theorem with_rise {l : List En} (h : Rise l) (e : En) : Rise (withL l e) := by
  rw [with_past h]
  obtain ⟨h1, h2⟩ := past_rise (k := e.key) h
  unfold Rise
  rw [List.pairwise_append]
  refine ⟨rise_take h, List.pairwise_cons.2 ⟨fun x hx => h2 x hx, h1⟩, fun x hx y hy => ?_⟩
  have hx2 : lt x.key e.key = true := take_imp (p := before e.key) hx
  rcases List.mem_cons.1 hy with rfl | hy
  · exact hx2
  · exact lt_trans hx2 (h2 y hy)
theorem merge_part : ∀ (m : List En) (a b : List En) (c : En), (∀ e ∈ a ++ [c], ∀ d ∈ m, lt e.key d.key = true) → mergeL (a ++ c :: b) m = a ++ c :: mergeL b m
  | [], a, b, c, _ => rfl
  | d :: m, a, b, c, h => by
    have hall : ∀ e ∈ a ++ [c], before d.key e = true := fun e he => h e he d (List.mem_cons_self ..)
    have e1 : a ++ c :: b = (a ++ [c]) ++ b := by simp
    have e2 : (a ++ c :: b).takeWhile (before d.key) = (a ++ [c]) ++ b.takeWhile (before d.key) := by
      rw [e1, List.takeWhile_append_of_pos hall]
    have e3 : past d.key (a ++ c :: b) = past d.key b := by
      unfold past
      rw [e1, List.dropWhile_append_of_pos hall]
    unfold mergeL
    rw [e2, e3]
    simp
theorem merge_eq : ∀ (m l : List En), Rise l → Rise m → mergeL l m = changedL l m
  | [], _, _, _ => rfl
  | c :: m, l, hl, hm => by
    have ih := merge_eq m (withL l c) (with_rise hl c) (List.Pairwise.of_cons hm)
    show _ = changedL (withL l c) m
    have hp := merge_part m (l.takeWhile (before c.key)) (past c.key l) c fun e he d hd => by
      have hcd : lt c.key d.key = true := List.rel_of_pairwise_cons hm hd
      rcases List.mem_append.1 he with he | he
      · exact lt_trans (take_imp (p := before c.key) he) hcd
      · rw [List.mem_singleton.1 he]; exact hcd
    rw [← ih, with_past hl c, hp]
    rfl
theorem with_length (l : List En) (e : En) : (withL l e).length ≤ l.length + 1 := by
  unfold withL
  rw [List.length_append, List.length_cons]
  have h1 := List.length_filter_le (fun x => decide (x.key ≠ e.key)) (l.dropWhile (before e.key))
  have h2 : (l.takeWhile (before e.key)).length + (l.dropWhile (before e.key)).length = l.length := by rw [← List.length_append, List.takeWhile_append_dropWhile]
  omega
theorem changed_length (m : List En) : ∀ l : List En, (changedL l m).length ≤ l.length + m.length := by
  induction m with
  | nil => intro l; exact Nat.le_refl _
  | cons e m ih =>
    intro l
    have h1 := ih (withL l e)
    have h2 := with_length l e
    rw [List.length_cons]
    exact Nat.le_trans h1 (by omega)
theorem mem_with {l : List En} {e x : En} (h : x ∈ withL l e) : x = e ∨ x ∈ l := by
  unfold withL at h
  rcases List.mem_append.1 h with h | h
  · exact .inr ((List.takeWhile_sublist _).subset h)
  · rcases List.mem_cons.1 h with h | h
    · exact .inl h
    · exact .inr ((List.dropWhile_sublist _).subset (List.mem_filter.1 h).1)
theorem mem_changed {x : En} : ∀ (m l : List En), x ∈ changedL l m → x ∈ m ∨ x ∈ l
  | [], _, h => .inr h
  | e :: m, l, h => by
    rcases mem_changed m (withL l e) h with h | h
    · exact .inl (List.mem_cons_of_mem _ h)
    · rcases mem_with h with h | h
      · exact .inl (h ▸ List.mem_cons_self ..)
      · exact .inr h
/-- Of rising entries, leaving out what is gone. -/
theorem getE_rise {l : List En} (h : Rise l) {e : En} (he : e ∈ l) : getE l e.key = some e := by
  induction l with
  | nil => simp at he
  | cons x l ih =>
    unfold getE
    rw [List.find?_cons]
    rcases List.mem_cons.1 he with rfl | he
    · simp
    · have h1 : lt x.key e.key = true := List.rel_of_pairwise_cons h he
      have h2 : x.key ≠ e.key := fun e2 => by rw [e2, lt_irr] at h1; cases h1
      simp only [h2, decide_false]
      exact ih (List.Pairwise.of_cons h) he
theorem getE_mem {l : List En} {k : ByteArray} {e : En} (h : getE l k = some e) : e ∈ l ∧ e.key = k := by
  refine ⟨List.mem_of_find?_eq_some h, ?_⟩
  have := List.find?_some h
  simpa using this
theorem getV_live {l : List En} (h : Rise l) (k : ByteArray) : getV (liveL l) k = getV l k := by
  have hr : Rise (liveL l) := List.Pairwise.sublist List.filter_sublist h
  unfold getV
  cases e1 : getE l k with
  | none =>
    have : getE (liveL l) k = .none := by
      unfold getE at e1 ⊢
      rw [List.find?_eq_none] at e1 ⊢
      exact fun x hx => e1 x (List.mem_filter.1 hx).1
    rw [this]
  | some e =>
    obtain ⟨h1, rfl⟩ := getE_mem e1
    cases hg : e.gone with
    | false =>
      have hm : e ∈ liveL l := List.mem_filter.2 ⟨h1, by simp [hg]⟩
      rw [getE_rise hr hm]
    | true =>
      have : getE (liveL l) e.key = .none := by
        cases e2 : getE (liveL l) e.key with
        | none => rfl
        | some x =>
          obtain ⟨h3, h4⟩ := getE_mem e2
          obtain ⟨h5, h6⟩ := List.mem_filter.1 h3
          have := getE_rise h h5
          rw [h4, e1] at this
          cases this
          rw [hg] at h6
          cases h6
      rw [this]
      simp [valO, hg]
theorem live_live (l : List En) : liveL (liveL l) = liveL l := by unfold liveL; rw [List.filter_filter]; congr 1; funext x; simp
theorem live_all {l : List En} (h : ∀ e ∈ l, e.gone = false) : liveL l = l := List.filter_eq_self.2 fun e he => by simp [h e he]
theorem live_gone {l : List En} : ∀ e ∈ liveL l, e.gone = false := fun e he => by simpa using (List.mem_filter.1 he).2
theorem pairs_whole {l : List En} {n : Nat} (h : (liveL l).length ≤ n) : (pairsL l whole n).length = (liveL l).length := by
  unfold pairsL
  have : (liveL l).filter (fun e => whole.has e.key) = liveL l := List.filter_eq_self.2 fun e _ => by
    unfold Sp.has whole
    simp only
    rw [lt_no]
    rfl
  rw [this, List.take_of_length_le h]
end Go.Proofs.Ytjlifkhpohfiaaa
