/- What runes.Unquote answers of any text: what stands between quotes, or that it is none such. Condition: the text has at most 1000 bytes. -/
import Derived.Test.YtponiboiijgllaaDoorRWalkR
import Derived.Test.YtponiboiijgllaaDoorRWalkF
import Derived.Test.YtponiboiijgllaaDoorRMathG
namespace Go.Proofs.YtponiboiijgllaaDoor
open Go.RowKit
set_option maxRecDepth 100000

def resV (o : Option (List UInt8)) : Value := match o with | some l => .tuple #[.string ⟨l.toArray⟩, .bool true] | none => .tuple #[.string ⟨#[]⟩, .bool false]

/-- A right text between two quotes. -/
structure Good (s : ByteArray) : Prop where
  two : 2 ≤ s.size
  first : (s[0]'(by omega)).toNat = 34
  last : (s[s.size - 1]'(by omega)).toNat = 34
  right : rightL s.data.toList = -1

theorem Bld.below {B b : Nat} {bs : List Value} {w w' : World} (h : Bld B b bs w) (hb : Below w.heap.size w w') : Bld B b bs w' := by
  have go : ∀ p, Lib.BuilderAtF 68 5 B b p bs w → Lib.BuilderAtF 68 5 B b p bs w' := by
    rintro p ⟨hB, v, hbk, hown, hne⟩
    refine ⟨hB, v, (hb.block b (block_lt hbk)).trans hbk, ⟨hown.1, ?_⟩, hne⟩
    rcases hown.2 with h | ⟨g, cap, cur, fz, hv, hbg, hg, rest⟩
    · exact .inl h
    · exact .inr ⟨g, cap, cur, fz, hv, hbg, (hb.block g (block_lt hg)).trans hg, rest⟩
  exact h.elim (fun x => .inl (go _ x)) (fun x => .inr (go _ x))

theorem escaped_yes (T : ByteArray) (k : Nat) (w : World) (hs : T.size ≤ 1000000) (x : UInt8) (n : Nat) (he : esc (T.data.toList.drop k) = some (x, n)) :
    Calls Tryd.prog 83 #[.string (T.extract k T.size)] w fun e w' => e = .returned (.tuple #[.int .u8 x.toNat, .int .i64 n]) ∧ Below w.heap.size w w' := by
  have := escaped_any (T.extract k T.size) w (by simp; omega)
  rw [suffix_data, escV_some he] at this
  exact this
theorem escaped_not (T : ByteArray) (k : Nat) (w : World) (hs : T.size ≤ 1000000) (he : esc (T.data.toList.drop k) = none) :
    Calls Tryd.prog 83 #[.string (T.extract k T.size)] w fun e w' => e = .returned (.tuple #[.int .u8 0, .int .i64 0]) ∧ Below w.heap.size w w' := by
  have := escaped_any (T.extract k T.size) w (by simp; omega)
  rw [suffix_data, escV_none he] at this
  exact this
theorem good_within {s : ByteArray} (hg : Good s) : s.data.toList = 34 :: ((s.data.toList.drop 1).take (s.size - 2) ++ [34]) := by
  have h2 := hg.two
  have e0 : s.data.toList = (s[0]'(by omega)) :: s.data.toList.drop 1 := by
    have := List.drop_eq_getElem_cons (l := s.data.toList) (i := 0) (by simp; omega)
    rw [List.drop_zero] at this
    exact this
  have e1 : (s.data.toList.drop 1).drop (s.size - 2) = [s[s.size - 1]'(by omega)] := by
    rw [List.drop_drop, show 1 + (s.size - 2) = s.size - 1 by omega]
    have := List.drop_eq_getElem_cons (l := s.data.toList) (i := s.size - 1) (by simp; omega)
    rw [this, List.drop_eq_nil_of_le (by simp; omega)]
    rfl
  have f0 : s[0]'(by omega) = 34 := (u8_eq _ 34 (by omega)).2 hg.first
  have f1 : s[s.size - 1]'(by omega) = 34 := (u8_eq _ 34 (by omega)).2 hg.last
  have e2 := List.take_append_drop (s.size - 2) (s.data.toList.drop 1)
  rw [e1, f1] at e2
  rw [e2, ← f0]
  exact e0

set_option maxHeartbeats 4000000 in
set_option maxRecDepth 100000 in
theorem unquote_good (s : ByteArray) (w : World) (hs : s.size ≤ 1000000) (hg : Good s) :
    Calls Tryd.prog 67 #[.string s] w fun e w' => e = .returned (resV (unq ((s.data.toList.drop 1).take (s.size - 2)))) ∧ Below w.heap.size w w' := by
  have h2 := hg.two
  have n1 : ((s.size : Int) - 1).toNat = s.size - 1 := by omega
  have t0 : (((s[0]'(by omega)).toNat : Int) != 34) = false := by simp; have := hg.first; omega
  have t1 : (((s[s.size - 1]'(by omega)).toNat : Int) != 34) = false := by simp; have := hg.last; omega
  have HR := Lib.hid hg.right
  have hTd : (s.extract 1 (s.size - 1)).data.toList = (s.data.toList.drop 1).take (s.size - 2) := by
    simp only [ByteArray.data_extract, Array.toList_extract, List.extract_eq_take_drop]
    rw [show s.size - 1 - 1 = s.size - 2 by omega]
  have hT : (s.extract 1 (s.size - 1)).size ≤ 1000000 := by simp; omega
  have hA : AllOk (segsAt (s.extract 1 (s.size - 1)) 0) := by
    have := hg.right
    rw [good_within hg] at this
    unfold segsAt
    rw [List.drop_zero, hTd]
    exact within_ok this
  rw [← hTd]
  obtain ⟨T, hTe⟩ : ∃ T, T = s.extract 1 (s.size - 1) := ⟨_, rfl⟩
  rw [← hTe] at hT hA ⊢
  have HTE := Lib.hid hTe
  clear hg hTd hTe
  go_enter Tryd.func67, Tryd.ntmps67
  go_wp2_with (go_at_call 82; refine (right_any s _ (by omega)).mono ?_)
  rintro e w1 ⟨rfl, p1, rfl⟩
  rw [HR.out]
  have b1 := below_iter (Below.refl _ w) (Nat.le_refl _) s p1
  have s1 := b1.size
  generalize w.iter s p1 = w1 at b1 s1 ⊢
  go_wp2_with (go_at_call 72; refine (Tryd.Builder_Grow_fresh w1.heap.size w1.heap.size (s.size - 1 - 1) _ (Nat.le_refl _) (alloc_new w1 _) (by simp) (by omega)).mono ?_)
  rintro e w2 ⟨rfl, h2', b2⟩
  have hI2 : Bld w1.heap.size w1.heap.size (Lib.byteCells []) w2 := Or.inr (Lib.BuilderAtF.of h2')
  have b2' := (b1.alloc s1 (.cells #[.pointer none, .slice none 0 0] 68)).trans (b2.mono s1)
  have s2 := h2'.lt
  clear h2' b2
  rw [← HTE.out]
  have HA := Lib.hid hA
  clear hA
  go_wp2
  go_loopw [7] (fun nv wr => ∃ (pos nx m : Nat) (acc : List UInt8), nv = .int .i64 nx ∧ Bld w1.heap.size w1.heap.size (Lib.byteCells acc) wr ∧ wr.heap[w2.heap.size]? = some (.stringIter T pos) ∧ Below w.heap.size w wr ∧ Hid (AllOk (segsAt T pos)) ∧ Hid ((unq (T.data.toList.drop m)).map (acc ++ ·) = unq T.data.toList) ∧ Hid (∀ (j : Nat) (h : j < T.size), pos ≤ j → j < nx → (T[j]'h).toNat < 128) ∧ pos ≤ T.size ∧ m ≤ T.size ∧ acc.length ≤ m ∧ pos ≤ m ∧ nx ≤ m ∧ (m = pos ∨ m = nx)) (fun _ wr => T.size - wr.iterPos w2.heap.size)
  case atStart => exact ⟨0, 0, 0, [], rfl, hI2.alloc _, World.iter_heap w2 T 0, b2'.alloc (by omega) _, HA, Lib.hid (by simp), Lib.hid (fun j h a b => by omega), by omega, by omega, by simp, by omega, by omega, .inl rfl⟩
  case round =>
    obtain ⟨pos, nx, m, acc, rfl, hI, hit, hbw, HK, H, HS, hps, hm, hal, hpm, hnm, hor⟩ := hrel
    have hsz := block_lt hit
    by_cases hp : pos < T.size
    · have hnx : ∀ ty, (Instr.next (.pointer (some ⟨w2.heap.size, 0, none⟩)) true ty).run Tryd.prog wr = _ := fun ty => Lib.run_next_any_at wr w2.heap.size T pos ty hit hp
      have hwd := decode_width hp
      have hd1 := decode_le T pos
      have hI3 := hI.iterAt hit (pos + (Utf8.decode T pos).2)
      have hit2 := Lib.iterAt_heap wr w2.heap.size T pos (pos + (Utf8.decode T pos).2) hit
      have hbw2 := Lib.below_iterAt hbw (k := w2.heap.size) (by omega) T (pos + (Utf8.decode T pos).2)
      have hsz2 : w1.heap.size ≤ (wr.iterAt w2.heap.size T (pos + (Utf8.decode T pos).2)).heap.size := by rw [Lib.iterAt_size]; omega
      obtain ⟨hok, hA2⟩ := allOk_at hp HK.out
      have HK2 := Lib.hid hA2
      have HOK := Lib.hid hok
      clear hok hA2
      by_cases hskip : pos < nx
      · have hasc := HS.out pos hp (by omega) hskip
        have HW1 := Lib.hid (ascii_width hp hasc)
        clear hasc
        go_wp2
        go_roundw
        case rel =>
          have hw1 := HW1.out
          exact ⟨pos + (Utf8.decode T pos).2, nx, m, acc, rfl, hI3, hit2, hbw2, HK2, H, Lib.hid (fun j h a b => HS.out j h (by omega) b), by omega, by omega, by omega, by omega, by omega, by omega⟩
        case measure =>
          simp only [World.iterPos, hit2, hit]
          omega
      · have hm' : m = pos := by omega
        subst hm'
        have hbyte := ok_byte hp HOK.out
        by_cases h92 : (Utf8.decode T m).1 = 92
        · have hc : (T[m]'hp).toNat = 92 ∧ (Utf8.decode T m).2 = 1 := by omega
          have HC := Lib.hid hc.1
          have HW1 := Lib.hid hc.2
          have t92 : ((((Utf8.decode T m).1 : Nat) : Int) == 92) = true := by simp; omega
          clear hc hbyte h92
          cases hes : esc (T.data.toList.drop (m + 1)) with
          | none =>
            have HE := Lib.hid hes
            have HN := Lib.hid (round_noesc hp HC.out hes H.out)
            clear hes
            go_wp2_with (go_at_call 83; refine (escaped_not T (m + 1) _ hT HE.out).mono ?_)
            rintro e w3 rfl b3
            go_wp2
            go_ret2
            rw [HN.out]
            exact ⟨rfl, hbw2.trans (b3.mono (by omega))⟩
          | some xn =>
            obtain ⟨x, n⟩ := xn
            have HE := Lib.hid hes
            obtain ⟨n1', n3, nl, nasc⟩ := esc_le hes
            rw [List.length_drop, len_data] at nl
            have NA := Lib.hid nasc
            have HN := Lib.hid (round_esc hp HC.out hes H.out)
            have hne : ((n : Int) == 0) = false := by simp; omega
            clear hes nasc
            go_wp2_with (go_at_call 83; refine (escaped_yes T (m + 1) _ hT x n HE.out).mono ?_)
            rintro e w3 rfl b3
            have hI4 := Bld.below hI3 b3
            have hit4 : w3.heap[w2.heap.size]? = some (.stringIter T (m + (Utf8.decode T m).2)) := (b3.block _ (block_lt hit2)).trans hit2
            have hb4 := hbw2.trans (b3.mono (by omega))
            have s4 := b3.size
            clear hI hI3 hit2 b3
            go_wp2_with (go_at_call 29; refine (writeByte_any w1.heap.size w1.heap.size _ x.toNat _ hI4 (by rw [Lib.byteCells_length]; omega) (by omega)).mono ?_)
            rintro e w5 ⟨rfl, h5, b5, k5⟩
            have hI5 : Bld w1.heap.size w1.heap.size (Lib.byteCells (acc ++ [x])) w5 := by rw [Lib.byteCells_append]; exact Or.inr h5
            have i5 := k5.iter hit4 (by omega)
            clear h5 hI4 k5
            go_wp2
            go_roundw
            case rel =>
              have hw1 := HW1.out
              refine ⟨m + (Utf8.decode T m).2, m + 1 + n, m + 1 + n, acc ++ [x], by go_num, hI5, i5, hb4.trans (b5.mono (by omega)), HK2, HN, Lib.hid ?_, by omega, by omega, by simp; omega, by omega, by omega, .inr rfl⟩
              intro j hj a b
              have : (T[j]'hj) ∈ (T.data.toList.drop (m + 1)).take n := by
                rw [List.mem_take_iff_getElem]
                refine ⟨j - (m + 1), by simp; omega, ?_⟩
                simp only [List.getElem_drop, Array.getElem_toList, show m + 1 + (j - (m + 1)) = j by omega]
                rfl
              exact NA.out _ this
            case measure =>
              simp only [World.iterPos, i5, hit]
              omega
        · have t92 : ((((Utf8.decode T m).1 : Nat) : Int) == 92) = false := by simp; omega
          have hc92 : (T[m]'hp).toNat ≠ 92 := by omega
          by_cases hbad : (Utf8.decode T m).1 = 34 ∨ plainB ((Utf8.decode T m).1 : Nat) = false
          · have hb : (T[m]'hp).toNat = 34 ∨ (T[m]'hp).toNat < 32 ∨ (T[m]'hp).toNat = 127 := by
              rcases hbad with h | h
              · omega
              · simp [plainB] at h
                omega
            have HN := Lib.hid (round_bad hp hb H.out)
            have hbb : ((((Utf8.decode T m).1 : Nat) : Int) == 34) = true ∨ (((((Utf8.decode T m).1 : Nat) : Int) == 34) = false ∧ plainB ((Utf8.decode T m).1 : Nat) = false) := by
              by_cases h : (Utf8.decode T m).1 = 34
              · exact .inl (by simp; omega)
              · exact .inr ⟨by simp; omega, hbad.resolve_left h⟩
            clear hb hbad hbyte h92 hc92
            rcases hbb with t34 | ⟨t34, tp⟩
            all_goals
              go_wp2_with (go_at_call 74; refine (plain_any _ _).mono ?_; rintro e w' ⟨rfl, rfl⟩)
              go_ret2
              rw [HN.out]
              exact ⟨rfl, hbw2⟩
          · have h34 : (Utf8.decode T m).1 ≠ 34 := fun k => hbad (.inl k)
            have tp : plainB ((Utf8.decode T m).1 : Nat) = true := by
              by_cases h : plainB ((Utf8.decode T m).1 : Nat) = true
              · exact h
              · exact absurd (.inr (by simpa using h)) hbad
            have HN := Lib.hid (round_rune hp HOK.out h92 h34 tp H.out)
            have t34 : ((((Utf8.decode T m).1 : Nat) : Int) == 34) = false := by simp; omega
            have hl4 := enc_length ((Utf8.decode T m).1 : Nat)
            have hlw : (Lib.encodeRune ((Utf8.decode T m).1 : Nat)).length ≤ (Utf8.decode T m).2 := by
              rw [ok_bytes hp HOK.out]
              simp
              omega
            clear hbad hbyte h92 hc92 h34
            go_wp2_with (first | (go_at_call 74; refine (plain_any _ _).mono ?_; rintro e w' ⟨rfl, rfl⟩) | (go_at_call 75; refine (writeRune_any w1.heap.size w1.heap.size _ _ (by omega) (by omega) _ hI3 (by rw [Lib.byteCells_length]; omega) hsz2).mono ?_))
            rintro e w5 ⟨rfl, h5, b5, k5⟩
            have hI5 : Bld w1.heap.size w1.heap.size (Lib.byteCells (acc ++ Lib.encodeRune ((Utf8.decode T m).1 : Nat))) w5 := by
              rw [Lib.byteCells_append, Lib.byteCells_encodeRune]
              exact Or.inr h5
            have i5 := k5.iter hit2 (by omega)
            clear h5 hI3 k5
            go_wp2
            go_roundw
            case rel => exact ⟨m + (Utf8.decode T m).2, nx, m + (Utf8.decode T m).2, _, rfl, hI5, i5, hbw2.trans (b5.mono (by omega)), HK2, HN, Lib.hid (fun j h a b => by omega), by omega, by omega, by simp; omega, by omega, by omega, .inl rfl⟩
            case measure =>
              simp only [World.iterPos, i5, hit]
              omega
    · have hnx : ∀ ty, (Instr.next (.pointer (some ⟨w2.heap.size, 0, none⟩)) true ty).run Tryd.prog wr = _ := fun ty => Lib.run_next_end_at wr w2.heap.size T pos ty hit hp
      have HE : Hid (unq T.data.toList = some acc) := by
        have := H.out
        rw [List.drop_eq_nil_of_le (by rw [len_data]; omega), unq_nil] at this
        exact Lib.hid (by rw [← this]; simp)
      go_wp2_with (go_at_call 31; refine (Tryd.Builder_String_any_k w1.heap.size w1.heap.size acc _ hI (by omega)).mono ?_)
      rintro e w4 ⟨rfl, _, b4, _⟩
      go_wp2
      go_ret2
      rw [HE.out]
      exact ⟨rfl, hbw.trans (b4.mono (by omega))⟩
end Go.Proofs.YtponiboiijgllaaDoor
