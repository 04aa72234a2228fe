/- What the law's lay needs ahead of its port: keys in order, no text twice; rows that grow. Conditions: at most 1000000 elements of at most 1000 bytes. -/
import Derived.Test.YtibimnibmengpaaDoorTp
import Derived.Sort.OwnSorted
namespace Go.Proofs.YtibimnibmengpaaDoor
open Go.RowKit Go.Op
set_option maxRecDepth 100000

section
variable {w0 : World} {b c r : Nat} {G : List (Nat × List Value)} {w w1 : World} {m : M} {g : Nat}
theorem HasE.freeze {x : List Value} (h : HasE w0 b c r G w m) (hl : LocM w0 b c r G w g) (hr : Rw w g x) : HasE w0 b c r ((g, x) :: G) w m := by
  obtain ⟨m0, h1, h2, h3, h4, h5⟩ := h
  refine ⟨m0, h1, h2.more fun y hy => List.mem_cons_of_mem _ hy, h3, h4, fun g' l' hx => ?_⟩
  rcases List.mem_cons.1 hx with e | e
  · cases e
    exact ⟨hr, hl.ge, hl.ne⟩
  · exact h5 g' l' e
theorem HasE.beyond (h : HasE w0 b c r G w m) (hg : w.heap.size ≤ g) (hl : g < w1.heap.size) : LocM w0 b c r G w1 g := by
  obtain ⟨m0, h1, h2, h3, h4, h5⟩ := h
  have o := h1.at_.own
  have h3 := o.lb
  have h4 := o.lc
  have h6 := o.lr
  have h7 := h1.below.size
  exact ⟨hl, by omega, ⟨by omega, by omega, by omega⟩, fun x hx e => by have := (h5 x.1 x.2 hx).1.lt; omega⟩
end
/-- Keys, as an argument. -/
def KArg (w : World) (v : Value) (l : List ByteArray) : Prop := (v = .slice none 0 0 ∧ l = []) ∨ ∃ x cap, v = .slice (some x) l.length cap ∧ (l = [] ∨ ∃ g o, x = ⟨g, o, none⟩ ∧ g < w.heap.size ∧ w.rangeAt g o (strs l))
theorem KArg.later {w w1 : World} {v : Value} {l : List ByteArray} (h : KArg w v l) (hb : Below w.heap.size w w1) : KArg w1 v l :=
  h.imp id fun ⟨x, cap, e, h2⟩ => ⟨x, cap, e, h2.imp id fun ⟨g, o, e2, hg, hr⟩ => ⟨g, o, e2, Nat.lt_of_lt_of_le hg hb.size, rangeAt_same hr (hb.block g hg)⟩⟩
theorem KArg.val {w : World} {v : Value} {l : List ByteArray} (h : KArg w v l) : ∃ a cap, v = .slice a l.length cap ∧ SRow w a l := by
  rcases h with ⟨rfl, rfl⟩ | ⟨x, cap, rfl, h2⟩
  · exact ⟨none, 0, rfl, .inl rfl⟩
  · exact ⟨_, cap, rfl, h2.imp id fun ⟨g, o, e, hg, hr⟩ => ⟨g, o, by rw [e], hg, hr⟩⟩
def u8s (bs : List Nat) : List Value := bs.map fun (b : Nat) => Value.int .u8 (b : Int)
/-- Bytes, as an argument. -/
structure UArg (w : World) (a : Option Addr) (us : List Nat) : Prop where
  le : ∀ b, b ∈ us → b ≤ 255
  row : us = [] ∨ ∃ g o, a = some ⟨g, o, none⟩ ∧ g < w.heap.size ∧ w.rangeAt g o (u8s us)
theorem UArg.later {w w1 : World} {a : Option Addr} {us : List Nat} (h : UArg w a us) (hb : Below w.heap.size w w1) : UArg w1 a us :=
  ⟨h.le, h.row.imp id fun ⟨g, o, e, hg, hr⟩ => ⟨g, o, e, Nat.lt_of_lt_of_le hg hb.size, rangeAt_same hr (hb.block g hg)⟩⟩
/-- The keys in order. -/
def ssOf (ks : List ByteArray) : List ByteArray := ((ks.map (·.data.toList)).mergeSort fun x y => decide (x ≤ y)).map fun x => ⟨⟨x⟩⟩
theorem ssOf_enc (ks : List ByteArray) : ((ks.map (·.data.toList)).mergeSort fun x y => decide (x ≤ y)).map encStr = strs (ssOf ks) := by
  simp [ssOf, strs, encStr]
theorem ssOf_length (ks : List ByteArray) : (ssOf ks).length = ks.length := by simp [ssOf, List.length_mergeSort]
theorem ssOf_up (ks : List ByteArray) : (ssOf ks).Pairwise fun a b => lt b a = false := by
  obtain ⟨ss, -, -, h3, h4⟩ := sorted_up ks
  have e : ssOf ks = ss := by
    rw [ssOf, h4, List.map_map]
    conv => rhs; rw [← List.map_id ss]
    rfl
  rw [e]
  exact h3
/-- One more key, if it isn't the last text. -/
def stepD (acc : List ByteArray) (x : ByteArray) : List ByteArray := if x = acc.getLastD ⟨#[]⟩ then acc else acc ++ [x]
def lowsOf (ks : List ByteArray) : List ByteArray := (ssOf ks).foldl stepD [⟨#[]⟩]
theorem lt_empty (x : ByteArray) : lt x ⟨#[]⟩ = false := by
  show bytesLess x.toList (ByteArray.toList ⟨#[]⟩) = false
  rw [show ByteArray.toList ⟨#[]⟩ = [] by rw [ByteArray.toList_eq]]
  cases x.toList <;> rfl
theorem getLastD_snoc (l : List ByteArray) (x d : ByteArray) : (l ++ [x]).getLastD d = x := by simp [List.getLastD_eq_getLast?]
theorem dd_up : ∀ (ss acc : List ByteArray), acc ≠ [] → acc.Pairwise (fun a b => lt a b = true) → ss.Pairwise (fun a b => lt b a = false) → (∀ x, x ∈ ss → lt x (acc.getLastD ⟨#[]⟩) = false) → (ss.foldl stepD acc).Pairwise (fun a b => lt a b = true) ∧ (∃ t, ss.foldl stepD acc = acc ++ t) ∧ (ss.foldl stepD acc).length ≤ acc.length + ss.length
  | [], acc, _, h, _, _ => ⟨h, ⟨[], by simp⟩, by simp⟩
  | x :: ss, acc, hne, h, hs, hl => by
    rw [List.pairwise_cons] at hs
    rw [List.foldl_cons]
    by_cases e : x = acc.getLastD ⟨#[]⟩
    · rw [stepD, if_pos e]
      obtain ⟨h1, h2, h3⟩ := dd_up ss acc hne h hs.2 fun y hy => hl y (List.mem_cons_of_mem _ hy)
      exact ⟨h1, h2, by simp only [List.length_cons]; omega⟩
    · rw [stepD, if_neg e]
      have hx := hl x List.mem_cons_self
      have hlx : lt (acc.getLastD ⟨#[]⟩) x = true := by
        rcases tri x (acc.getLastD ⟨#[]⟩) with ⟨h1, h2, h3⟩ | ⟨h1, h2, h3⟩ | ⟨h1, h2, h3⟩
        · have : bytesLess x.toList (acc.getLastD ⟨#[]⟩).toList = false := hx
          rw [this] at h1
          cases h1
        · exfalso
          refine e ?_
          have := eq_of_beq h3
          rwa [ByteArray.toList_eq, ByteArray.toList_eq, Array.toList_inj, ← ByteArray.ext_iff] at this
        · exact h2
      have hall : ∀ a, a ∈ acc → lt a x = true := fun a ha => by
        rcases List.eq_nil_or_concat acc with e0 | ⟨pre, z, e0⟩
        · exact absurd e0 hne
        · rw [List.concat_eq_append] at e0
          subst e0
          rw [getLastD_snoc] at hlx
          rcases List.mem_append.1 ha with ha | ha
          · exact less_trans _ _ _ ((List.pairwise_append.1 h).2.2 a ha z (by simp)) hlx
          · simp only [List.mem_cons, List.not_mem_nil, or_false] at ha
            subst ha
            exact hlx
      obtain ⟨h1, ⟨t, h2⟩, h3⟩ := dd_up ss (acc ++ [x]) (by simp) (List.pairwise_append.2 ⟨h, by simp, fun a ha y hy => by simp only [List.mem_cons, List.not_mem_nil, or_false] at hy; subst hy; exact hall a ha⟩) hs.2 fun y hy => by
        rw [getLastD_snoc]
        exact hs.1 y hy
      exact ⟨h1, ⟨x :: t, by rw [h2]; simp⟩, by simp only [List.length_append, List.length_cons, List.length_nil] at h3 ⊢; omega⟩
theorem lowsOf_up (ks : List ByteArray) : (lowsOf ks).Pairwise (fun a b => lt a b = true) ∧ (lowsOf ks)[0]? = some ⟨#[]⟩ ∧ (lowsOf ks).length ≤ ks.length + 1 := by
  obtain ⟨h1, ⟨t, h2⟩, h3⟩ := dd_up (ssOf ks) [⟨#[]⟩] (by simp) (by simp) (ssOf_up ks) fun x _ => lt_empty x
  refine ⟨h1, by rw [lowsOf, h2]; rfl, ?_⟩
  rw [ssOf_length] at h3
  simp only [List.length_cons, List.length_nil] at h3
  show (List.foldl stepD _ _).length ≤ _
  omega
/-- How many links they are given. -/
def htAt (us : List Nat) (i : Nat) : Int := if i < us.length then 1 + ((us.getD i 0 % 8 : Nat) : Int) else 1
def htsUp (us : List Nat) (n : Nat) : List Int := (List.range n).map fun i => htAt us i
def mostOf (l : List Int) : Int := l.foldl max 1
def htsOf (us : List Nat) (n : Nat) : List Int := (htsUp us n).set 0 (mostOf (htsUp us n))
theorem htAt_in (us : List Nat) (i : Nat) : 1 ≤ htAt us i ∧ htAt us i ≤ 8 := by
  unfold htAt
  split <;> omega
theorem most_in : ∀ (l : List Int) (a : Int), 1 ≤ a → a ≤ 8 → (∀ x, x ∈ l → 1 ≤ x ∧ x ≤ 8) → a ≤ l.foldl max a ∧ l.foldl max a ≤ 8 ∧ ∀ x, x ∈ l → x ≤ l.foldl max a
  | [], a, h1, h2, _ => ⟨Int.le_refl _, h2, fun x hx => by simp at hx⟩
  | x :: l, a, h1, h2, h => by
    have hx := h x List.mem_cons_self
    obtain ⟨q1, q2, q3⟩ := most_in l (max a x) (by omega) (by omega) fun y hy => h y (List.mem_cons_of_mem _ hy)
    rw [List.foldl_cons]
    refine ⟨by omega, q2, fun y hy => ?_⟩
    rcases List.mem_cons.1 hy with e | e
    · subst e; omega
    · exact q3 y e
theorem htsUp_in (us : List Nat) (n : Nat) : ∀ x, x ∈ htsUp us n → 1 ≤ x ∧ x ≤ 8 := fun x hx => by
  obtain ⟨i, -, rfl⟩ := List.mem_map.1 hx
  exact htAt_in us i
theorem htsOf_in (us : List Nat) (n : Nat) : (∀ x, x ∈ htsOf us n → 0 < x ∧ x ≤ 8) ∧ (htsOf us n).length = n ∧ ∀ x, x ∈ htsOf us n → x ≤ mostOf (htsUp us n) := by
  obtain ⟨q1, q2, q3⟩ := most_in (htsUp us n) 1 (by omega) (by omega) (htsUp_in us n)
  refine ⟨fun x hx => ?_, by simp [htsOf, htsUp], fun x hx => ?_⟩
  · rcases List.mem_or_eq_of_mem_set hx with e | e
    · have := htsUp_in us n x e; omega
    · subst e
      exact ⟨by show 0 < List.foldl _ _ _; omega, q2⟩
  · rcases List.mem_or_eq_of_mem_set hx with e | e
    · exact q3 x e
    · subst e; exact Int.le_refl _
/-- More is appended to a row of the caller's own: block by block. -/
theorem own_app2 {w1 : World} {base size n : Nat} {e : TypeId} {v : Value} {xs : List Value} (T : TypeId) (bytes : Nat) (i0 : TypeInfo) (z : Value) (hT : Tryd.prog.underlying T = some (.slice e)) (hi : Tryd.prog.info? e = some i0) (hz0 : i0.zero = some z) (hz1 : i0.size = size) (hz2 : i0.bytes = bytes) (hzs : z.cells.size = size) (hsz : 0 < size)
    (h : w1.ownsRow base e size v n xs) (hb1 : base ≤ w1.heap.size) (ad : Addr) (k cap : Nat) (news : List Value) (hl : news.length = k * size) (hk : ∀ j u, news[j]? = some u → w1.cell? (ad.add j) = some u) (h1 : ∀ u ∈ news, u.oneCell' = true) (hn : n + k ≤ 1000000) (hby : bytes ≤ 1000) (ty : TypeId) :
    ∃ a' cap' w2, (Builtin.append_ #[T, T] ty #[v, .slice (some ad) k cap]).run Tryd.prog w1 = .ok (.slice a' (n + k) cap') w2 ∧ w2.ownsRow base e size (.slice a' (n + k) cap') (n + k) (xs ++ news) ∧ w1.grownBy w2 v.ownBlock ∧ ((Value.slice a' (n + k) cap').ownBlock = v.ownBlock ∨ (Value.slice a' (n + k) cap').ownBlock = some w1.heap.size) ∧ (a' = none → v = .slice none 0 0) := by
  obtain ⟨v', w', hr, ho, hg, h4, h5⟩ := run_append_own_at w1 base T ty e i0 z size bytes hT hi hz0 hz1 hz2 hzs hsz v n xs h ad k cap news hl hk h1 (by unfold maxLen; omega) (Nat.le_trans (Nat.mul_le_mul hn hby) (by decide)) hb1
  rcases own_val ho with ⟨e1, e2⟩ | ⟨g, cap', e1, -⟩
  · have hv := (h4.1 e1).1
    subst e1
    exact ⟨none, 0, w', by rw [hr, e2], by rw [e2] at ho ⊢; exact ho, hg, h5, fun _ => hv⟩
  · subst e1
    exact ⟨_, cap', w', hr, ho, hg, h5, fun e => by cases e⟩
end Go.Proofs.YtibimnibmengpaaDoor
