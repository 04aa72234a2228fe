/- Plain mathematics for layer 1 (runes): what was put between quotes is read as it was, and stands in a right text without bytes below 32; a text is that of its runes just if it is right. No condition. -/
import Derived.Test.YtponiboiijgllaaDoorRMathG
namespace Go.Proofs.YtponiboiijgllaaDoor
open Go

/-- A chunk is sound: its bytes are those of its rune, or one byte at which none stands. -/
def Sound (g : Seg) : Prop := (g.ok = true ∧ g.bytes = Lib.encodeRune g.r ∧ (g.r < 55296 ∨ (57344 ≤ g.r ∧ g.r ≤ 1114111))) ∨ (g.ok = false ∧ g.r = 65533 ∧ ∃ c : UInt8, g.bytes = [c] ∧ 128 ≤ c.toNat)
theorem sg_sound {l : List UInt8} (hl : l ≠ []) : Sound (sg l) := by
  by_cases h : Stands l
  · obtain ⟨v, w, e, h1, h4, hlen, hv, henc, hone, hmore⟩ := stands_dec h
    refine .inl ⟨(okB_iff hl).2 h, ?_, ?_⟩
    · unfold sg; rw [e]; exact henc.symm
    · unfold sg; rw [e]; exact hv
  · have e := decL_not hl h
    refine .inr ⟨?_, by unfold sg; rw [e], ?_⟩
    · have : ¬ okB l = true := fun k => h ((okB_iff hl).1 k)
      simpa [sg] using this
    · rcases l with _ | ⟨a, t⟩
      · exact absurd rfl hl
      · refine ⟨a, by unfold sg; rw [e]; rfl, ?_⟩
        by_cases ha : a.toNat < 128
        · exact absurd (.one a t ha) h
        · omega
theorem segs_sound : ∀ (n : Nat) (l : List UInt8), l.length ≤ n → ∀ g ∈ segs l, Sound g
  | 0, l, h => by
    obtain rfl := List.eq_nil_of_length_eq_zero (Nat.le_zero.1 h)
    rw [segs_nil]
    intro g hg
    cases hg
  | n + 1, l, h => by
    by_cases hl : l = []
    · subst hl
      rw [segs_nil]
      intro g hg
      cases hg
    · have hw := width_pos l hl
      rw [segs_cons hl]
      intro g hg
      rcases List.mem_cons.1 hg with rfl | hg
      · exact sg_sound hl
      · exact segs_sound n _ (by simp; omega) g hg

theorem hexd_bd {n : Nat} (h : n < 16) : (48 ≤ (hexd n).toNat ∧ (hexd n).toNat ≤ 57) ∨ (97 ≤ (hexd n).toNat ∧ (hexd n).toNat ≤ 102) := by
  by_cases k : n < 10
  · have := hexd_lt k; omega
  · have := hexd_ge (n := n) (by omega) h; omega
theorem hexv_hexd {n : Nat} (h : n < 16) : hexv (hexd n) = n := by
  unfold hexv
  by_cases k : n < 10
  · have := hexd_lt k
    rw [if_pos (by omega)]
    omega
  · have := hexd_ge (n := n) (by omega) h
    rw [if_neg (by omega), if_pos (by omega)]
    omega
theorem esc_hexd (c : UInt8) (t : List UInt8) : esc (120 :: hexd (c.toNat / 16) :: hexd (c.toNat % 16) :: t) = some (c, 3) := by
  have hu := u8_lt c
  rw [esc_cons, if_neg (by decide), if_neg (by decide)]
  show (if hexv (hexd (c.toNat / 16)) < 16 ∧ hexv (hexd (c.toNat % 16)) < 16 then _ else _) = _
  rw [hexv_hexd (by omega), hexv_hexd (by omega), if_pos (by omega)]
  have : 16 * (c.toNat / 16) + c.toNat % 16 = c.toNat := by omega
  rw [this]
  simp
theorem enc_one {r : Nat} (h : r < 128) : Lib.encodeRune (r : Int) = [UInt8.ofNat r] := by
  unfold Lib.encodeRune
  rw [Lib.encodeRuneZ_one (by omega) (by omega)]
  simp [Nat.toUInt8_eq]
theorem enc_high {r : Nat} (h : 128 ≤ r) : ∀ c ∈ Lib.encodeRune (r : Int), 128 ≤ c.toNat := by
  have hs := (enc_stands (r : Int) []).1
  have hd := (enc_stands (r : Int) []).2
  rw [List.append_nil] at hs hd
  obtain ⟨v, w, e, h1, h4, hlen, hv, henc, hone, hmore⟩ := stands_dec hs
  rw [e] at hd
  obtain ⟨hvf, hwl⟩ := Prod.mk.inj hd
  have hw : w ≠ 1 := by
    intro k
    obtain ⟨a, t, hl, ha, hv'⟩ := hone k
    have : (fixR (r : Int) : Int) = r ∨ fixR (r : Int) = 65533 := by
      unfold fixR
      split <;> omega
    omega
  have := (hmore hw).2
  rw [hwl, List.take_length] at this
  exact this

/-- A chunk, put between quotes, is read as its bytes. -/
theorem unq_chunk {g : Seg} (hg : Sound g) (t : List UInt8) : unq (quoteSeg g ++ t) = (unq t).map (g.bytes ++ ·) := by
  have hex : ∀ c : UInt8, g.bytes = [c] → unq ([92, 120, hexd (c.toNat / 16), hexd (c.toNat % 16)] ++ t) = (unq t).map (g.bytes ++ ·) := by
    intro c hc
    have e : [92, 120, hexd (c.toNat / 16), hexd (c.toNat % 16)] ++ t = 92 :: (120 :: hexd (c.toNat / 16) :: hexd (c.toNat % 16) :: t) := rfl
    rw [e, unq_esc (esc_hexd c t), hc]
    rfl
  rcases hg with ⟨hok, hb, hv⟩ | ⟨hok, hr, c, hb, hc⟩
  · unfold quoteSeg
    by_cases hp : plainB (g.r : Int) = true
    · rw [hok, hp]
      simp only [Bool.and_self, if_true]
      simp [plainB] at hp
      by_cases hm : classZ (g.r : Int) = 4
      · rw [if_pos hm]
        have hm2 := class_mark.1 hm
        have hr : g.r < 128 := by omega
        rw [hb, enc_one hr]
        show unq (92 :: (UInt8.ofNat g.r :: t)) = _
        have : esc (UInt8.ofNat g.r :: t) = some (UInt8.ofNat g.r, 1) := by
          rw [esc_cons, if_pos]
          have : g.r = 34 ∨ g.r = 92 := by omega
          rcases this with h | h
          · exact .inl (by rw [h]; rfl)
          · exact .inr (by rw [h]; rfl)
        rw [unq_esc this]
        rfl
      · rw [if_neg hm, List.nil_append, hb, unq_run]
        intro x hx
        have hm2 : ¬ ((g.r : Int) = 34 ∨ (g.r : Int) = 92) := fun k => hm (class_mark.2 k)
        by_cases hr : g.r < 128
        · rw [enc_one hr] at hx
          simp at hx
          subst hx
          have e : (UInt8.ofNat g.r).toNat = g.r := by simp; omega
          exact ⟨fun k => by have := (u8_eq _ 92 (by omega)).1 k; omega, fun k => by have := (u8_eq _ 34 (by omega)).1 k; omega, by omega, fun k => by have := (u8_eq _ 127 (by omega)).1 k; omega⟩
        · have := enc_high (r := g.r) (by omega) x hx
          exact ⟨fun k => by have := (u8_eq _ 92 (by omega)).1 k; omega, fun k => by have := (u8_eq _ 34 (by omega)).1 k; omega, by omega, fun k => by have := (u8_eq _ 127 (by omega)).1 k; omega⟩
    · have hp : plainB (g.r : Int) = false := by simpa using hp
      rw [hok, hp]
      simp only [Bool.and_false, Bool.false_eq_true, if_false]
      simp [plainB] at hp
      have hr : g.r < 128 := by omega
      have hb1 : g.bytes = [UInt8.ofNat g.r] := by rw [hb, enc_one hr]
      rw [hb1]
      have := hex _ hb1
      rw [hb1] at this
      exact this
  · unfold quoteSeg
    rw [hok]
    simp only [Bool.false_and, Bool.false_eq_true, if_false]
    have := hex c hb
    rw [hb] at this ⊢
    exact this
theorem unq_segs : ∀ (l : List Seg), (∀ g ∈ l, Sound g) → unq (l.flatMap quoteSeg) = some (bytesOf l)
  | [], _ => unq_nil
  | g :: l, h => by
    rw [List.flatMap_cons, unq_chunk (h g (by simp)), unq_segs l (fun x hx => h x (by simp [hx]))]
    rfl
/-- What was put between quotes is read as it was. -/
theorem unq_body (l : List UInt8) : unq (bodyL l) = some l := by
  unfold bodyL
  rw [unq_segs _ (segs_sound _ l (Nat.le_refl _)), bytes_segs]

theorem joinL_append (a b : List Int) : joinL (a ++ b) = joinL a ++ joinL b := by simp [joinL]
theorem joinL_byte (c : UInt8) (h : c.toNat < 128) : joinL [(c.toNat : Int)] = [c] := by
  have := enc_one h
  simp [joinL, this]
theorem joinL_bytes : ∀ l : List UInt8, (∀ c ∈ l, c.toNat < 128) → joinL (l.map fun c => (c.toNat : Int)) = l
  | [], _ => rfl
  | c :: l, h => by
    have h1 := joinL_byte c (h c (by simp))
    have h2 := joinL_bytes l (fun x hx => h x (by simp [hx]))
    have : (c :: l).map (fun c => (c.toNat : Int)) = [(c.toNat : Int)] ++ l.map (fun c => (c.toNat : Int)) := rfl
    rw [this, joinL_append, h1, h2]
    rfl
theorem quote_runes (g : Seg) (_hg : Sound g) : ∃ zs, quoteSeg g = joinL zs := by
  unfold quoteSeg
  split
  · split
    · refine ⟨[92, (g.r : Int)], ?_⟩
      have := joinL_byte 92 (by decide)
      rw [show ([92, (g.r : Int)] : List Int) = [((92 : UInt8).toNat : Int)] ++ [(g.r : Int)] from rfl, joinL_append, this]
      simp [joinL]
    · exact ⟨[(g.r : Int)], by simp [joinL]⟩
  · obtain ⟨c, hc⟩ : ∃ c, c = g.bytes.headD 0 := ⟨_, rfl⟩
    rw [← hc]
    have hu := u8_lt c
    have h1 := hexd_bd (n := c.toNat / 16) (by omega)
    have h2 := hexd_bd (n := c.toNat % 16) (by omega)
    refine ⟨_, (joinL_bytes _ ?_).symm⟩
    intro x hx
    simp at hx
    rcases hx with rfl | rfl | rfl | rfl
    · decide
    · decide
    · omega
    · omega
theorem body_runes : ∀ (l : List Seg), (∀ g ∈ l, Sound g) → ∃ zs, l.flatMap quoteSeg = joinL zs
  | [], _ => ⟨[], rfl⟩
  | g :: l, h => by
    obtain ⟨a, ha⟩ := quote_runes g (h g (by simp))
    obtain ⟨b, hb⟩ := body_runes l (fun x hx => h x (by simp [hx]))
    exact ⟨a ++ b, by rw [List.flatMap_cons, ha, hb, joinL_append]⟩
theorem quote_right (l : List UInt8) : rightL (quoteL l) = -1 := by
  obtain ⟨zs, hz⟩ := body_runes (segs l) (segs_sound _ l (Nat.le_refl _))
  have h34 := joinL_byte 34 (by decide)
  have : quoteL l = joinL ([((34 : UInt8).toNat : Int)] ++ zs ++ [((34 : UInt8).toNat : Int)]) := by
    unfold quoteL bodyL
    rw [hz, joinL_append, joinL_append, h34]
  rw [this]
  exact join_right _
/-- May a byte stand in a text between quotes? -/
def Plain (c : UInt8) : Prop := 32 ≤ c.toNat ∧ c.toNat ≠ 127
theorem quoteSeg_plain (g : Seg) : ∀ x ∈ quoteSeg g, Plain x := by
  have henc : plainB (g.r : Int) = true → ∀ x ∈ Lib.encodeRune (g.r : Int), Plain x := by
    intro hp x hx
    simp [plainB] at hp
    by_cases hr : g.r < 128
    · rw [enc_one hr] at hx
      simp at hx
      subst hx
      have e : (UInt8.ofNat g.r).toNat = g.r := by simp; omega
      unfold Plain
      omega
    · have := enc_high (r := g.r) (by omega) x hx
      unfold Plain
      omega
  intro x hx
  unfold quoteSeg at hx
  split at hx
  · rename_i h
    have hp : plainB (g.r : Int) = true := by
      simp at h
      exact h.2
    rcases List.mem_append.1 hx with k | k
    · split at k
      · simp at k
        subst k
        unfold Plain
        decide
      · cases k
    · exact henc hp x k
  · have hu := u8_lt (g.bytes.headD 0)
    have h1 := hexd_bd (n := (g.bytes.headD 0).toNat / 16) (by omega)
    have h2 := hexd_bd (n := (g.bytes.headD 0).toNat % 16) (by omega)
    simp only [List.mem_cons, List.not_mem_nil, or_false] at hx
    unfold Plain
    rcases hx with rfl | rfl | rfl | rfl
    · decide
    · decide
    · omega
    · omega
theorem quote_plain (l : List UInt8) : ∀ x ∈ quoteL l, Plain x := by
  intro x hx
  unfold quoteL bodyL at hx
  simp only [List.mem_append, List.mem_cons, List.not_mem_nil, or_false, List.mem_flatMap] at hx
  rcases hx with (rfl | ⟨g, _, hg⟩) | rfl
  · unfold Plain; decide
  · exact quoteSeg_plain g x hg
  · unfold Plain; decide
theorem quote_within (l : List UInt8) : ((quoteL l).drop 1).take ((quoteL l).length - 2) = bodyL l := by
  unfold quoteL
  simp
theorem quote_length (l : List UInt8) : 2 ≤ (quoteL l).length ∧ (quoteL l).length ≤ 5 * (segs l).length + 2 := by
  have : ∀ m : List Seg, (m.flatMap quoteSeg).length ≤ 5 * m.length := by
    intro m
    induction m with
    | nil => simp
    | cons g m ih =>
      have := quoteSeg_le g
      simp at *
      omega
  have := this (segs l)
  unfold quoteL bodyL
  simp at *
  omega

theorem back_ok : ∀ l : List Seg, (∀ g ∈ l, Sound g) → (∀ g ∈ l, g.ok = true) → joinL (l.map fun g => (g.r : Int)) = bytesOf l
  | [], _, _ => rfl
  | g :: l, h, hok => by
    have h1 := back_ok l (fun x hx => h x (by simp [hx])) (fun x hx => hok x (by simp [hx]))
    have hg := hok g (by simp)
    rcases h g (by simp) with ⟨_, hb, _⟩ | ⟨hno, _⟩
    · have : (g :: l).map (fun g => (g.r : Int)) = [(g.r : Int)] ++ l.map (fun g => (g.r : Int)) := rfl
      rw [this, joinL_append, h1]
      simp [joinL, bytesOf, hb]
    · rw [hno] at hg
      cases hg
theorem back_len : ∀ l : List Seg, (∀ g ∈ l, Sound g) → (bytesOf l).length ≤ (joinL (l.map fun g => (g.r : Int))).length ∧ ((∃ g ∈ l, g.ok = false) → (bytesOf l).length < (joinL (l.map fun g => (g.r : Int))).length)
  | [], _ => ⟨by simp [bytesOf], fun ⟨g, hg, _⟩ => by cases hg⟩
  | g :: l, h => by
    obtain ⟨i1, i2⟩ := back_len l (fun x hx => h x (by simp [hx]))
    have e : (g :: l).map (fun g => (g.r : Int)) = [(g.r : Int)] ++ l.map (fun g => (g.r : Int)) := rfl
    have e2 : (bytesOf (g :: l)).length = g.bytes.length + (bytesOf l).length := by simp [bytesOf]
    have e3 : (joinL [(g.r : Int)]).length = (Lib.encodeRune (g.r : Int)).length := by simp [joinL]
    rw [e, joinL_append, List.length_append, e2, e3]
    rcases h g (by simp) with ⟨hok, hb, _⟩ | ⟨hno, hr, c, hb, _⟩
    · rw [hb]
      refine ⟨by omega, ?_⟩
      rintro ⟨x, hx, hxo⟩
      rcases List.mem_cons.1 hx with rfl | hx
      · rw [hok] at hxo
        cases hxo
      · have := i2 ⟨x, hx, hxo⟩
        omega
    · have : (Lib.encodeRune (g.r : Int)).length = 3 := by rw [hr]; decide
      rw [hb, this]
      simp
      omega
/-- A text is that of its runes just if it is right. -/
theorem join_back (l : List UInt8) : joinL ((segs l).map fun g => (g.r : Int)) = l ↔ rightL l = -1 := by
  have hs := segs_sound _ l (Nat.le_refl _)
  constructor
  · intro h
    apply (right_all _ _).2
    intro g hg
    by_cases k : g.ok = true
    · exact k
    · have := (back_len _ hs).2 ⟨g, hg, by simpa using k⟩
      rw [h, bytes_segs] at this
      omega
  · intro h
    rw [back_ok _ hs ((right_all _ _).1 h), bytes_segs]
theorem quoteSeg_four (g : Seg) : (quoteSeg g).length ≤ 4 := by
  unfold quoteSeg
  split
  · split
    · rename_i h
      have hm := class_mark.1 h
      have hr : g.r < 128 := by omega
      rw [enc_one hr]
      simp
    · have := enc_length (g.r : Int)
      simp
      omega
  · simp
theorem segs_few : ∀ (n : Nat) (l : List UInt8), l.length ≤ n → (segs l).length ≤ l.length
  | 0, l, h => by
    obtain rfl := List.eq_nil_of_length_eq_zero (Nat.le_zero.1 h)
    rw [segs_nil]
    simp
  | n + 1, l, h => by
    by_cases hl : l = []
    · subst hl; rw [segs_nil]; simp
    · have hw := width_pos l hl
      have := segs_few n (l.drop (decL l).2) (by simp; omega)
      rw [segs_cons hl]
      simp at *
      omega
theorem quote_size (l : List UInt8) : (quoteL l).length ≤ 4 * l.length + 2 := by
  have : ∀ m : List Seg, (m.flatMap quoteSeg).length ≤ 4 * m.length := by
    intro m
    induction m with
    | nil => simp
    | cons g m ih =>
      have := quoteSeg_four g
      simp at *
      omega
  have := this (segs l)
  have := segs_few _ l (Nat.le_refl _)
  unfold quoteL bodyL
  simp at *
  omega
end Go.Proofs.YtponiboiijgllaaDoor
