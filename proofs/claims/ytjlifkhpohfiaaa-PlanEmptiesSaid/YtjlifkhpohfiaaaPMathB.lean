/- Tables by which keys are found, in numbers: how many slots, where a key is put, where it is found, how many slots are looked at. No condition. -/
import Derived.Test.YtjlifkhpohfiaaaPMath
namespace Go.Proofs.Ytjlifkhpohfiaaa

/-- How many bits a number has. -/
def blen (x : Nat) : Nat := if x = 0 then 0 else x.log2 + 1
theorem blen_lt (x : Nat) : x < 2 ^ blen x := by
  unfold blen
  split
  · omega
  · exact Nat.lt_log2_self
theorem blen_le {x : Nat} (h : 0 < x) : 2 ^ (blen x - 1) ≤ x ∧ 0 < blen x := by
  unfold blen
  rw [if_neg (by omega)]
  exact ⟨by rw [Nat.add_sub_cancel]; exact Nat.log2_self_le (by omega), by omega⟩
theorem blen_unique {x b : Nat} (h1 : x < 2 ^ b) (h2 : 0 < b → 2 ^ (b - 1) ≤ x) : blen x = b := by
  rcases Nat.eq_zero_or_pos x with rfl | hx
  · rcases Nat.eq_zero_or_pos b with rfl | hb
    · rfl
    · have := h2 hb
      have := Nat.two_pow_pos (b - 1)
      omega
  · obtain ⟨h3, h4⟩ := blen_le hx
    have h5 := blen_lt x
    have hb : 0 < b := by
      rcases Nat.eq_zero_or_pos b with rfl | hb
      · simp at h1; omega
      · exact hb
    have h6 : blen x - 1 < b := (Nat.pow_lt_pow_iff_right (by decide : 1 < 2)).1 (Nat.lt_of_le_of_lt h3 h1)
    have h7 : b - 1 < blen x := (Nat.pow_lt_pow_iff_right (by decide : 1 < 2)).1 (Nat.lt_of_le_of_lt (h2 hb) h5)
    omega
theorem blen_max {x b : Nat} (h : x < 2 ^ b) : blen x ≤ b := by
  rcases Nat.eq_zero_or_pos x with rfl | hx
  · simp [blen]
  · obtain ⟨h3, h4⟩ := blen_le hx
    have h6 : blen x - 1 < b := (Nat.pow_lt_pow_iff_right (by decide : 1 < 2)).1 (Nat.lt_of_le_of_lt h3 h)
    omega
theorem blen_div {x k : Nat} (h : 2 ^ k ≤ x) : blen x = k + blen (x / 2 ^ k) := by
  have hp := Nat.two_pow_pos k
  have h0 : 0 < x / 2 ^ k := Nat.div_pos h hp
  obtain ⟨h1, h2⟩ := blen_le h0
  have h3 := blen_lt (x / 2 ^ k)
  refine blen_unique ?_ fun _ => ?_
  · rw [Nat.pow_add, Nat.mul_comm]
    exact (Nat.div_lt_iff_lt_mul hp).1 h3
  · rw [show k + blen (x / 2 ^ k) - 1 = k + (blen (x / 2 ^ k) - 1) by omega, Nat.pow_add, Nat.mul_comm]
    exact (Nat.le_div_iff_mul_le hp).1 h1

/-- How many slots the table of n keys has. -/
def sz (n : Nat) : Nat := 2 ^ (blen (n - 1) + 1)
theorem sz_ge (n : Nat) : 2 * n ≤ sz n := by
  have := blen_lt (n - 1)
  unfold sz
  rw [Nat.pow_succ]
  omega
theorem sz_two (n : Nat) : 2 ≤ sz n := by
  have := Nat.two_pow_pos (blen (n - 1))
  unfold sz
  rw [Nat.pow_succ]
  omega
theorem sz_half (n : Nat) : sz n = 2 ∨ sz n / 2 < 2 * n := by
  unfold sz
  rcases Nat.eq_zero_or_pos (n - 1) with h | h
  · left; rw [h]; rfl
  · right
    obtain ⟨h1, h2⟩ := blen_le h
    rw [Nat.pow_succ, Nat.mul_div_cancel _ (by decide : 0 < 2)]
    obtain ⟨b, hb⟩ : ∃ b, blen (n - 1) = b + 1 := ⟨_, (Nat.sub_add_cancel h2).symm⟩
    rw [hb] at h1 ⊢
    rw [Nat.add_sub_cancel] at h1
    rw [Nat.pow_succ]
    omega
theorem sz_top {n k : Nat} (h : n ≤ 2 ^ k) : sz n ≤ 2 ^ (k + 1) := by
  have := blen_max (x := n - 1) (b := k) (by have := Nat.two_pow_pos k; omega)
  exact Nat.pow_le_pow_right (by decide) (by omega)
theorem sz_least {n i : Nat} (h : i ≤ blen (n - 1)) : 2 ^ (i + 1) < 2 * n ↔ i < blen (n - 1) := by
  constructor
  · intro h1
    rcases Nat.lt_or_ge i (blen (n - 1)) with h2 | h2
    · exact h2
    · obtain rfl : i = blen (n - 1) := by omega
      have := blen_lt (n - 1)
      rw [Nat.pow_succ] at h1
      omega
  · intro h1
    have h2 : 0 < n - 1 := by
      rcases Nat.eq_zero_or_pos (n - 1) with h2 | h2
      · rw [h2] at h1; simp [blen] at h1
      · exact h2
    obtain ⟨h3, h4⟩ := blen_le h2
    have h5 : 2 ^ i ≤ 2 ^ (blen (n - 1) - 1) := Nat.pow_le_pow_right (by decide) (by omega)
    rw [Nat.pow_succ]
    omega

/-- The slots of a key, in its order: what they hold. -/
def rot (T : List Int) (s : Nat) : List Int := T.drop s ++ T.take s
theorem rot_length {T : List Int} {s : Nat} : (rot T s).length = T.length := by
  unfold rot
  rw [List.length_append, List.length_drop, List.length_take]
  omega
theorem wrap_lt {s j m : Nat} (hs : s < m) (hj : j < m) : (s + j) % m = if s + j < m then s + j else s + j - m := by
  split
  · exact Nat.mod_eq_of_lt (by assumption)
  · rw [Nat.mod_eq_sub_mod (by omega), Nat.mod_eq_of_lt (by omega)]
theorem rot_get {T : List Int} {s j : Nat} (hs : s < T.length) (hj : j < T.length) : (rot T s)[j]? = T[(s + j) % T.length]? := by
  unfold rot
  rw [wrap_lt hs hj]
  split
  · rw [List.getElem?_append_left (by rw [List.length_drop]; omega), List.getElem?_drop]
  · rw [List.getElem?_append_right (by rw [List.length_drop]; omega), List.length_drop, List.getElem?_take_of_lt (by omega)]
    congr 1
    omega
theorem rot_at {T : List Int} {s j : Nat} (hs : s < T.length) (hj : j < T.length) : (rot T s)[j]'(by rw [rot_length]; exact hj) = T[(s + j) % T.length]'(Nat.mod_lt _ (by omega)) := by
  have := rot_get hs hj
  rw [List.getElem?_eq_getElem (by rw [rot_length]; exact hj), List.getElem?_eq_getElem (Nat.mod_lt _ (by omega))] at this
  exact Option.some.inj this
theorem rot_count (p : Int → Bool) (T : List Int) (s : Nat) : (rot T s).countP p = T.countP p := by
  unfold rot
  rw [List.countP_append, Nat.add_comm, ← List.countP_append, List.take_append_drop]
theorem slot_inj {s i j m : Nat} (hs : s < m) (hi : i < m) (hj : j < m) (h : (s + i) % m = (s + j) % m) : i = j := by
  rw [wrap_lt hs hi, wrap_lt hs hj] at h
  split at h <;> split at h <;> omega
theorem slot_next (s j m : Nat) : ((s + j) % m + 1) % m = (s + (j + 1)) % m := by
  rw [Nat.mod_add_mod, Nat.add_assoc]

/-- A search, and one step of it. -/
theorem find_step {l : List Int} {p : Int → Bool} {j : Nat} (h : j ≤ l.findIdx p) (hj : j < l.length) : (p (l[j]'hj) = true ∧ l.findIdx p = j) ∨ (p (l[j]'hj) = false ∧ j + 1 ≤ l.findIdx p) := by
  cases e : p (l[j]'hj) with
  | true =>
    left
    refine ⟨rfl, ?_⟩
    rcases Nat.lt_or_ge j (l.findIdx p) with h1 | h1
    · have := List.not_of_lt_findIdx h1
      rw [e] at this
      cases this
    · omega
  | false =>
    right
    refine ⟨rfl, ?_⟩
    rcases Nat.lt_or_ge j (l.findIdx p) with h1 | h1
    · exact h1
    · have h2 : l.findIdx p = j := by omega
      have := List.findIdx_getElem (xs := l) (p := p) (w := by omega)
      simp only [h2] at this
      rw [e] at this
      cases this

def zeroB (v : Int) : Bool := v == 0
def fullB (v : Int) : Bool := v != 0
/-- How many slots on the first one lies that holds 0. -/
def hole (T : List Int) (s : Nat) : Nat := (rot T s).findIdx zeroB
def first (T : List Int) (k : ByteArray) : Nat := fin (word 0 k.data.toList) % T.length
def put (T : List Int) (k : ByteArray) (v : Int) : List Int := T.set ((first T k + hole T (first T k)) % T.length) v
def tab (ks : List ByteArray) : Nat → List Int
  | 0 => List.replicate (sz ks.length) 0
  | i + 1 => match ks[i]? with
    | some k => put (tab ks i) k (i + 1)
    | none => tab ks i
def build (ks : List ByteArray) : List Int := tab ks ks.length
def leadsB (ks : List ByteArray) (k : ByteArray) (v : Int) : Bool := decide (0 < v) && decide (ks[(v - 1).toNat]? = some k)
def stopB (ks : List ByteArray) (k : ByteArray) (v : Int) : Bool := v == 0 || leadsB ks k v
def stop (T : List Int) (ks : List ByteArray) (k : ByteArray) : Nat := (rot T (first T k)).findIdx (stopB ks k)
/-- The place of a key in whatever table. -/
def place (T : List Int) (ks : List ByteArray) (k : ByteArray) : Int :=
  if T.length = sz ks.length then (match (rot T (first T k))[stop T ks k]? with | some v => if v = 0 then -1 else v - 1 | none => -1) else -1
/-- How many slots are looked at. -/
def looked (T : List Int) (ks : List ByteArray) (k : ByteArray) : Nat :=
  if T.length = sz ks.length then (if stop T ks k < T.length then stop T ks k + 1 else T.length) else 0

theorem first_lt {T : List Int} {k : ByteArray} (h : 0 < T.length) : first T k < T.length := Nat.mod_lt _ h
theorem put_length (T : List Int) (k : ByteArray) (v : Int) : (put T k v).length = T.length := by
  unfold put
  rw [List.length_set]
theorem tab_length (ks : List ByteArray) (i : Nat) : (tab ks i).length = sz ks.length := by
  induction i with
  | zero => simp [tab]
  | succ i ih =>
    unfold tab
    split
    · rw [put_length, ih]
    · exact ih
theorem tab_step {ks : List ByteArray} {i : Nat} (h : i < ks.length) : tab ks (i + 1) = put (tab ks i) ks[i] (i + 1) := by
  conv => lhs; unfold tab
  rw [List.getElem?_eq_getElem h]
theorem count_zero {T : List Int} (h : T.countP fullB < T.length) : ∃ x ∈ T, zeroB x = true := by
  apply Classical.byContradiction
  intro hn
  have : T.countP fullB = T.length := by
    rw [List.countP_eq_length]
    intro a ha
    have : ¬ zeroB a = true := fun h => hn ⟨a, ha, h⟩
    simp only [zeroB, fullB, beq_iff_eq, bne_iff_ne, ne_eq] at this ⊢
    exact this
  omega
theorem hole_lt {T : List Int} {s : Nat} (h : T.countP fullB < T.length) : hole T s < T.length := by
  have h2 : (rot T s).countP fullB < (rot T s).length := by rw [rot_count, rot_length]; exact h
  have := List.findIdx_lt_length_of_exists (count_zero h2)
  rw [rot_length] at this
  exact this
theorem hole_zero {T : List Int} {s : Nat} (hs : s < T.length) (h : hole T s < T.length) : T[(s + hole T s) % T.length]'(Nat.mod_lt _ (by omega)) = 0 := by
  have : zeroB ((rot T s)[hole T s]'(by rw [rot_length]; exact h)) = true := List.findIdx_getElem (w := by rw [rot_length]; exact h)
  rw [rot_at hs h] at this
  simpa [zeroB] using this
theorem hole_before {T : List Int} {s j : Nat} (hs : s < T.length) (h : j < hole T s) (hj : j < T.length) : T[(s + j) % T.length]'(Nat.mod_lt _ (by omega)) ≠ 0 := by
  have := List.not_of_lt_findIdx h
  rw [rot_at hs hj] at this
  simpa [zeroB] using this
theorem put_count {T : List Int} {k : ByteArray} {v : Int} (h : T.countP fullB < T.length) (hv : v ≠ 0) : (put T k v).countP fullB = T.countP fullB + 1 := by
  have h0 : 0 < T.length := by omega
  have h1 := hole_lt (s := first T k) h
  have h2 := hole_zero (first_lt h0) h1
  unfold put
  rw [List.countP_set (Nat.mod_lt _ h0), h2]
  simp [fullB, hv]
theorem tab_count (ks : List ByteArray) {i : Nat} (h : i ≤ ks.length) : (tab ks i).countP fullB = i := by
  induction i with
  | zero =>
    simp [tab, List.countP_replicate, fullB]
  | succ i ih =>
    have ih := ih (by omega)
    have h2 := sz_ge ks.length
    rw [tab_step (by omega), put_count (by rw [ih, tab_length]; omega) (by omega), ih]
theorem tab_room (ks : List ByteArray) {i : Nat} (h : i < ks.length) : (tab ks i).countP fullB < (tab ks i).length := by
  have h2 := sz_ge ks.length
  rw [tab_count ks (by omega), tab_length]
  omega
theorem tab_entry (ks : List ByteArray) {i : Nat} (h : i ≤ ks.length) : ∀ x ∈ tab ks i, 0 ≤ x ∧ x ≤ i := by
  induction i with
  | zero =>
    intro x hx
    simp [tab] at hx
    omega
  | succ i ih =>
    intro x hx
    rw [tab_step (by omega)] at hx
    unfold put at hx
    rcases List.mem_or_eq_of_mem_set hx with h1 | h1
    · have := ih (by omega) x h1
      omega
    · omega
/-- What place p's key left. -/
def Kept (T : List Int) (k : ByteArray) (p : Nat) : Prop := ∃ J, J < T.length ∧ T[(first T k + J) % T.length]? = some ((p : Int) + 1) ∧ ∀ j, j < J → ∃ x : Int, T[(first T k + j) % T.length]? = some x ∧ 0 < x ∧ x ≤ p
theorem tab_kept (ks : List ByteArray) {i : Nat} (h : i ≤ ks.length) {p : Nat} (hp : p < i) : Kept (tab ks i) (ks[p]'(by omega)) p := by
  induction i with
  | zero => omega
  | succ i ih =>
    have hroom := tab_room ks (show i < ks.length by omega)
    have hent := tab_entry ks (show i ≤ ks.length by omega)
    rw [tab_step (by omega)]
    generalize tab ks i = T at ih hroom hent ⊢
    have h0 : 0 < T.length := by omega
    generalize hk : ks[i] = k
    have h1 := hole_lt (s := first T k) hroom
    have h2 := hole_zero (first_lt h0) h1
    have h3 : (put T k (i + 1)).length = T.length := put_length _ _ _
    have hf : ∀ q, first (put T k (i + 1)) q = first T q := fun q => by unfold first; rw [h3]
    have hget : ∀ n, n < T.length → (put T k (i + 1))[n]? = if (first T k + hole T (first T k)) % T.length = n then some ((i : Int) + 1) else T[n]? := fun n hn => by
      unfold put
      rw [List.getElem?_set]
      split
      · rw [if_pos (Nat.mod_lt _ h0)]
      · rfl
    have hz : T[(first T k + hole T (first T k)) % T.length]? = some 0 := by rw [List.getElem?_eq_getElem (Nat.mod_lt _ h0), h2]
    generalize hH : (first T k + hole T (first T k)) % T.length = H at hget hz
    rcases Nat.lt_or_ge p i with hpi | hpi
    · obtain ⟨J, hJ, hat, hbe⟩ := ih (by omega) hpi
      refine ⟨J, by rw [h3]; exact hJ, ?_, ?_⟩
      · rw [hf, h3, hget _ (Nat.mod_lt _ h0), if_neg]
        · exact hat
        · intro e
          rw [← e, hz] at hat
          simp at hat
          omega
      · intro j hj
        obtain ⟨x, hx, hx0, hxp⟩ := hbe j hj
        refine ⟨x, ?_, hx0, hxp⟩
        rw [hf, h3, hget _ (Nat.mod_lt _ h0), if_neg]
        · exact hx
        · intro e
          rw [← e, hz] at hx
          simp at hx
          omega
    · obtain rfl : p = i := by omega
      rw [hk]
      refine ⟨hole T (first T k), by rw [h3]; exact h1, ?_, ?_⟩
      · rw [hf, h3, hget _ (Nat.mod_lt _ h0), hH, if_pos rfl]
      · intro j hj
        have hb := hole_before (first_lt h0) hj (by omega)
        have hm := hent _ (List.getElem_mem (Nat.mod_lt (first T k + j) h0))
        refine ⟨_, ?_, ?_, hm.2⟩
        · rw [hf, h3, hget _ (Nat.mod_lt _ h0), if_neg]
          · exact List.getElem?_eq_getElem (Nat.mod_lt _ h0)
          · intro e
            rw [← hH] at e
            have := slot_inj (first_lt h0) h1 (by omega) e
            omega
        · omega
theorem build_length (ks : List ByteArray) : (build ks).length = sz ks.length := tab_length ks _
theorem build_count (ks : List ByteArray) : (build ks).countP fullB = ks.length := tab_count ks (Nat.le_refl _)

/-- The first place of a text among the keys, or -1. -/
def isK (k x : ByteArray) : Bool := decide (x = k)
def wantAt (ks : List ByteArray) (k : ByteArray) : Int := if ks.findIdx (isK k) < ks.length then (ks.findIdx (isK k) : Nat) else -1
theorem mem_iff {ks : List ByteArray} {k : ByteArray} : ks.findIdx (isK k) < ks.length ↔ k ∈ ks := by
  rw [List.findIdx_lt_length]
  constructor
  · rintro ⟨x, hx, h⟩
    obtain rfl := of_decide_eq_true h
    exact hx
  · intro h
    exact ⟨k, h, decide_eq_true rfl⟩
theorem find_eq {l : List Int} {p : Int → Bool} {J : Nat} (hJ : J < l.length) (h1 : p l[J] = true) (h2 : ∀ j (hj : j < J), p (l[j]'(by omega)) = false) : l.findIdx p = J := by
  rw [List.findIdx_eq hJ]
  exact ⟨h1, fun j hj => h2 j hj⟩
theorem leads_iff {ks : List ByteArray} {k : ByteArray} {v : Int} : leadsB ks k v = true ↔ 0 < v ∧ ks[(v - 1).toNat]? = some k := by
  unfold leadsB
  rw [Bool.and_eq_true, decide_eq_true_eq, decide_eq_true_eq]
theorem stop_iff {ks : List ByteArray} {k : ByteArray} {v : Int} : stopB ks k v = true ↔ v = 0 ∨ (0 < v ∧ ks[(v - 1).toNat]? = some k) := by
  unfold stopB
  rw [Bool.or_eq_true, leads_iff, beq_iff_eq]
theorem stop_not {ks : List ByteArray} {k : ByteArray} {v : Int} (h : ¬ (v = 0 ∨ (0 < v ∧ ks[(v - 1).toNat]? = some k))) : stopB ks k v = false := by
  rw [← stop_iff] at h
  simpa using h
theorem build_at {ks : List ByteArray} {k : ByteArray} (hk : k ∈ ks) : stop (build ks) ks k < (build ks).length ∧ (rot (build ks) (first (build ks) k))[stop (build ks) ks k]? = some (((ks.findIdx (isK k) : Nat) : Int) + 1) := by
  have hb := build_length ks
  have h2 := sz_two ks.length
  obtain ⟨p, hp⟩ : ∃ p, p = ks.findIdx (isK k) := ⟨_, rfl⟩
  have hlt : p < ks.length := by rw [hp]; exact mem_iff.2 hk
  have hpk : ks[p] = k := by
    have := List.findIdx_getElem (xs := ks) (p := isK k) (w := by rw [← hp]; exact hlt)
    simp only [← hp] at this
    exact of_decide_eq_true this
  have hbef : ∀ q (hq : q < p), ks[q]'(by omega) ≠ k := by
    intro q hq
    have := List.not_of_lt_findIdx (xs := ks) (p := isK k) (i := q) (by rw [← hp]; exact hq)
    exact of_decide_eq_false this
  rw [← hp]
  have hkept := tab_kept ks (Nat.le_refl _) hlt
  rw [hpk] at hkept
  change Kept (build ks) k p at hkept
  generalize build ks = T at hkept hb ⊢
  obtain ⟨J, hJ, hat, hbe⟩ := hkept
  have h0 : 0 < T.length := by omega
  have hRJ : (rot T (first T k))[J]'(by rw [rot_length]; exact hJ) = (p : Int) + 1 := by
    rw [rot_at (first_lt h0) hJ]
    rw [List.getElem?_eq_getElem (Nat.mod_lt _ h0)] at hat
    exact Option.some.inj hat
  have hst : stop T ks k = J := by
    unfold stop
    refine find_eq (by rw [rot_length]; exact hJ) ?_ ?_
    · rw [hRJ, stop_iff]
      right
      refine ⟨by omega, ?_⟩
      rw [show ((p : Int) + 1 - 1).toNat = p by omega, List.getElem?_eq_getElem hlt, hpk]
    · intro j hj
      obtain ⟨x, hx, hx0, hxp⟩ := hbe j hj
      rw [rot_at (first_lt h0) (by omega)]
      rw [List.getElem?_eq_getElem (Nat.mod_lt _ h0)] at hx
      rw [Option.some.inj hx]
      refine stop_not ?_
      rintro (h | ⟨_, h⟩)
      · omega
      · have hq : (x - 1).toNat < p := by omega
        rw [List.getElem?_eq_getElem (by omega)] at h
        exact hbef _ hq (Option.some.inj h)
  rw [hst]
  refine ⟨hJ, ?_⟩
  rw [List.getElem?_eq_getElem (by rw [rot_length]; exact hJ), hRJ]
theorem build_not {ks : List ByteArray} {k : ByteArray} (hk : k ∉ ks) : stop (build ks) ks k = hole (build ks) (first (build ks) k) := by
  unfold stop hole
  congr 1
  funext v
  cases e : zeroB v with
  | true => rw [stop_iff]; left; simpa [zeroB] using e
  | false =>
    refine stop_not ?_
    rintro (h | ⟨_, h⟩)
    · rw [h] at e; cases e
    · exact hk (List.mem_of_getElem? h)
theorem build_room (ks : List ByteArray) : (build ks).countP fullB < (build ks).length := by
  have h1 := sz_ge ks.length
  have h2 := sz_two ks.length
  rw [build_count, build_length]
  omega
theorem place_build (ks : List ByteArray) (k : ByteArray) : place (build ks) ks k = wantAt ks k := by
  unfold place wantAt
  rw [if_pos (build_length ks)]
  by_cases hk : k ∈ ks
  · rw [if_pos (mem_iff.2 hk), (build_at hk).2]
    simp only
    rw [if_neg (by omega)]
    omega
  · have h0 : 0 < (build ks).length := by rw [build_length]; have := sz_two ks.length; omega
    have h1 := hole_lt (s := first (build ks) k) (build_room ks)
    have h2 := hole_zero (first_lt h0) h1
    rw [if_neg (fun h => hk (mem_iff.1 h)), build_not hk, rot_get (first_lt h0) h1, List.getElem?_eq_getElem (Nat.mod_lt _ h0), h2]
    simp
theorem stop_build (ks : List ByteArray) (k : ByteArray) : stop (build ks) ks k < (build ks).length := by
  by_cases hk : k ∈ ks
  · exact (build_at hk).1
  · rw [build_not hk]
    exact hole_lt (build_room ks)
theorem looked_build (ks : List ByteArray) (k : ByteArray) : looked (build ks) ks k = stop (build ks) ks k + 1 := by
  unfold looked
  rw [if_pos (build_length ks), if_pos (stop_build ks k)]
theorem looked_few (ks : List ByteArray) (k : ByteArray) : looked (build ks) ks k ≤ ks.length + 1 := by
  rw [looked_build]
  have h1 := stop_build ks k
  have h2 : stop (build ks) ks k ≤ ks.length := by
    have h3 : ((rot (build ks) (first (build ks) k)).take (stop (build ks) ks k)).countP fullB = ((rot (build ks) (first (build ks) k)).take (stop (build ks) ks k)).length := by
      rw [List.countP_eq_length]
      intro x hx
      obtain ⟨j, hj, rfl⟩ := List.mem_iff_getElem.1 hx
      rw [List.length_take] at hj
      rw [List.getElem_take]
      have : stopB ks k _ = false := List.not_of_lt_findIdx (show j < stop (build ks) ks k by omega)
      have h4 : ¬ _ := fun h => Bool.false_ne_true (this.symm.trans (stop_iff.2 (.inl h)))
      simpa [fullB] using h4
    have h4 : ((rot (build ks) (first (build ks) k)).take (stop (build ks) ks k)).length = stop (build ks) ks k := by
      rw [List.length_take, rot_length]
      omega
    have h5 : ((rot (build ks) (first (build ks) k)).take (stop (build ks) ks k)).countP fullB ≤ (rot (build ks) (first (build ks) k)).countP fullB := (List.take_sublist _ _).countP_le
    rw [rot_count, build_count] at h5
    omega
  omega
end Go.Proofs.Ytjlifkhpohfiaaa
