/- Plain mathematics for layer 1 (runes): what stands between two quotes in a right text is right; one round of reading it. No condition. -/
import Derived.Test.YtponiboiijgllaaDoorRMathF
namespace Go.Proofs.YtponiboiijgllaaDoor
open Go

def AllOk (l : List Seg) : Prop := ∀ g ∈ l, g.ok = true
theorem allOk_cons {l : List UInt8} (hl : l ≠ []) (h : AllOk (segs l)) : Stands l ∧ AllOk (segs (l.drop (decL l).2)) := by
  rw [segs_cons hl] at h
  refine ⟨(okB_iff hl).1 (h (sg l) (by simp)), fun g hg => h g (by simp [hg])⟩
theorem allOk_init : ∀ (n : Nat) (l : List UInt8), l.length ≤ n → AllOk (segs (l ++ [34])) → AllOk (segs l)
  | 0, l, h, _ => by
    obtain rfl := List.eq_nil_of_length_eq_zero (Nat.le_zero.1 h)
    rw [segs_nil]
    intro g hg
    cases hg
  | n + 1, l, h, hok => by
    by_cases hl : l = []
    · subst hl
      rw [segs_nil]
      intro g hg
      cases hg
    · have hne : l ++ [34] ≠ [] := by simp
      obtain ⟨hs, hrest⟩ := allOk_cons hne hok
      have hpos := List.length_pos_iff.2 hl
      have hw : (decL (l ++ [34])).2 ≤ l.length := by
        obtain ⟨v, w, e, h1, h4, hlen, hv, henc, hone, hmore⟩ := stands_dec hs
        rw [e]
        simp at hlen
        simp only
        by_cases hw1 : w = 1
        · omega
        · by_cases hlt : w ≤ l.length
          · exact hlt
          · have hw : w = (l ++ [34]).length := by simp; omega
            have := (hmore hw1).2 34 (by rw [hw, List.take_length]; simp)
            exact absurd this (by decide)
      have hs2 := stands_take hs hw hl
      have hd := (stands_append hs2 [34]).2
      rw [segs_cons hl]
      intro g hg
      rcases List.mem_cons.1 hg with rfl | hg
      · exact (okB_iff hl).2 hs2
      · have hwl := width_pos l hl
        rw [hd, List.drop_append_of_le_length hwl.2.1] at hrest
        exact allOk_init n _ (by simp; omega) hrest g hg
/-- What stands between two quotes in a right text is right. -/
theorem within_ok {l : List UInt8} (h : rightL (34 :: (l ++ [34])) = -1) : AllOk (segs l) := by
  have h1 := (right_all _ _).1 h
  have h2 : AllOk (segs (34 :: (l ++ [34]))) := h1
  have h3 := (allOk_cons (by simp) h2).2
  rw [decL_one (a := 34) (by decide)] at h3
  exact allOk_init _ l (Nat.le_refl _) h3

theorem drop_get {T : ByteArray} {pos : Nat} (h : pos < T.size) : T.data.toList.drop pos = (T[pos]'h) :: T.data.toList.drop (pos + 1) :=
  List.drop_eq_getElem_cons (l := T.data.toList) (i := pos) (by simpa using h)
theorem u8_eq (c : UInt8) (n : Nat) (hn : n < 256) : c = UInt8.ofNat n ↔ c.toNat = n := by
  rw [← UInt8.toNat_inj]
  simp
  omega

/-- A \ at a place. -/
theorem round_esc {T : ByteArray} {pos : Nat} {acc : List UInt8} {x : UInt8} {n : Nat} (h : pos < T.size) (hc : (T[pos]'h).toNat = 92) (he : esc (T.data.toList.drop (pos + 1)) = some (x, n))
    (H : (unq (T.data.toList.drop pos)).map (acc ++ ·) = unq T.data.toList) : (unq (T.data.toList.drop (pos + 1 + n))).map ((acc ++ [x]) ++ ·) = unq T.data.toList := by
  rw [drop_get h, (u8_eq _ 92 (by omega)).2 hc] at H
  have := unq_esc he
  rw [show (92 : UInt8) = UInt8.ofNat 92 from rfl] at this
  rw [this, Option.map_map, List.drop_drop] at H
  rw [← H]
  congr 1
  funext y
  simp
theorem round_noesc {T : ByteArray} {pos : Nat} {acc : List UInt8} (h : pos < T.size) (hc : (T[pos]'h).toNat = 92) (he : esc (T.data.toList.drop (pos + 1)) = none)
    (H : (unq (T.data.toList.drop pos)).map (acc ++ ·) = unq T.data.toList) : unq T.data.toList = none := by
  rw [drop_get h, (u8_eq _ 92 (by omega)).2 hc] at H
  have := unq_noesc he
  rw [show (92 : UInt8) = UInt8.ofNat 92 from rfl] at this
  rw [this] at H
  rw [← H]
  rfl
theorem round_bad {T : ByteArray} {pos : Nat} {acc : List UInt8} (h : pos < T.size) (hc : (T[pos]'h).toNat = 34 ∨ (T[pos]'h).toNat < 32 ∨ (T[pos]'h).toNat = 127)
    (H : (unq (T.data.toList.drop pos)).map (acc ++ ·) = unq T.data.toList) : unq T.data.toList = none := by
  rw [drop_get h, unq_bad] at H
  · rw [← H]; rfl
  · intro k
    have := (u8_eq _ 92 (by omega)).1 k
    omega
  · rcases hc with k | k | k
    · exact .inl ((u8_eq _ 34 (by omega)).2 k)
    · exact .inr (.inl k)
    · exact .inr (.inr ((u8_eq _ 127 (by omega)).2 k))
theorem round_byte {T : ByteArray} {pos : Nat} {acc : List UInt8} (h : pos < T.size) (h92 : (T[pos]'h).toNat ≠ 92) (h34 : (T[pos]'h).toNat ≠ 34) (h32 : 32 ≤ (T[pos]'h).toNat) (h127 : (T[pos]'h).toNat ≠ 127)
    (H : (unq (T.data.toList.drop pos)).map (acc ++ ·) = unq T.data.toList) : (unq (T.data.toList.drop (pos + 1))).map ((acc ++ [T[pos]'h]) ++ ·) = unq T.data.toList := by
  rw [drop_get h, unq_plain _ (fun k => h92 ((u8_eq _ 92 (by omega)).1 k)) (fun k => h34 ((u8_eq _ 34 (by omega)).1 k)) h32 (fun k => h127 ((u8_eq _ 127 (by omega)).1 k)), Option.map_map] at H
  rw [← H]
  congr 1
  funext y
  simp
/-- A rune at a place. -/
theorem round_rune {T : ByteArray} {pos : Nat} {acc : List UInt8} (h : pos < T.size) (hok : okB (T.data.toList.drop pos) = true) (h92 : (Utf8.decode T pos).1 ≠ 92) (h34 : (Utf8.decode T pos).1 ≠ 34) (hp : plainB ((Utf8.decode T pos).1 : Nat) = true)
    (H : (unq (T.data.toList.drop pos)).map (acc ++ ·) = unq T.data.toList) : (unq (T.data.toList.drop (pos + (Utf8.decode T pos).2))).map ((acc ++ Lib.encodeRune ((Utf8.decode T pos).1 : Nat)) ++ ·) = unq T.data.toList := by
  rw [ok_bytes h hok]
  have e : (T.data.toList.drop pos).take (Utf8.decode T pos).2 ++ T.data.toList.drop (pos + (Utf8.decode T pos).2) = T.data.toList.drop pos := by
    rw [← List.drop_drop]
    exact List.take_append_drop _ _
  rw [← e, unq_run] at H
  · rw [Option.map_map] at H
    rw [← H]
    congr 1
    funext y
    simp
  · simp [plainB] at hp
    rcases ok_byte h hok with ⟨h1, h2, h3⟩ | ⟨h1, h2, h3⟩
    · rw [h1, drop_get h]
      intro c hc
      simp at hc
      subst hc
      rw [h2] at h92 h34 hp
      exact ⟨fun k => h92 ((u8_eq _ 92 (by omega)).1 k), fun k => h34 ((u8_eq _ 34 (by omega)).1 k), by omega, fun k => by have := (u8_eq _ 127 (by omega)).1 k; omega⟩
    · have hs := (okB_iff (drop_ne h)).1 hok
      obtain ⟨v, w, e2, q1, q4, hlen, hv, henc, hone, hmore⟩ := stands_dec hs
      rw [decode_decL, e2] at h1 ⊢
      intro c hc
      have := (hmore h1).2 c hc
      exact ⟨fun k => by have := (u8_eq _ 92 (by omega)).1 k; omega, fun k => by have := (u8_eq _ 34 (by omega)).1 k; omega, by omega, fun k => by have := (u8_eq _ 127 (by omega)).1 k; omega⟩
theorem allOk_at {T : ByteArray} {pos : Nat} (h : pos < T.size) (hA : AllOk (segsAt T pos)) : okB (T.data.toList.drop pos) = true ∧ AllOk (segsAt T (pos + (Utf8.decode T pos).2)) := by
  rw [segsAt_step h] at hA
  exact ⟨hA (sgAt T pos) (by simp), fun g hg => hA g (by simp [hg])⟩
theorem ascii_width {T : ByteArray} {pos : Nat} (h : pos < T.size) (ha : (T[pos]'h).toNat < 128) : (Utf8.decode T pos).2 = 1 := by
  rw [decode_decL, drop_get h, decL_one ha]
end Go.Proofs.YtponiboiijgllaaDoor
