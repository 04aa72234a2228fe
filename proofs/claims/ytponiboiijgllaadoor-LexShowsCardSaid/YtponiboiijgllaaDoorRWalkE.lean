/- What runes.Quote answers of any text: its chunks, between quotes. Condition: the text has at most 2000 bytes. -/
import Derived.Test.YtponiboiijgllaaDoorRWalkD
namespace Go.Proofs.YtponiboiijgllaaDoor
open Go.RowKit
set_option maxRecDepth 100000

theorem alloc_new (w : World) (o : Obj) : (w.alloc o).heap[w.heap.size]? = some o := by
  show (w.heap.push o)[w.heap.size]? = some o
  simp

theorem hex_at (n : Nat) (h : n < 16) (h' : n < (⟨#[48, 49, 50, 51, 52, 53, 54, 55, 56, 57, 97, 98, 99, 100, 101, 102]⟩ : ByteArray).size) :
    (⟨#[48, 49, 50, 51, 52, 53, 54, 55, 56, 57, 97, 98, 99, 100, 101, 102]⟩ : ByteArray)[n]'h' = hexd n := by
  have k : ∀ m : Fin 16, (#[48, 49, 50, 51, 52, 53, 54, 55, 56, 57, 97, 98, 99, 100, 101, 102] : Array UInt8)[m.val]'(m.isLt) = hexd m.val := by decide
  exact k ⟨n, h⟩
set_option maxHeartbeats 4000000 in
set_option maxRecDepth 100000 in
theorem quote_any (s : ByteArray) (w : World) (hs : s.size ≤ 1000000) :
    Calls Tryd.prog 55 #[.string s] w fun e w' => e = .returned (.string ⟨(quoteL s.data.toList).toArray⟩) ∧ Below w.heap.size w w' := by
  go_enter Tryd.func55, Tryd.ntmps55
  go_wp2_with (go_at_call 72; refine (Tryd.Builder_Grow_fresh w.heap.size w.heap.size (s.size + 2) _ (Nat.le_refl _) (alloc_new w _) (by simp) (by omega)).mono ?_)
  rintro e w1 ⟨rfl, h1, b1⟩
  have hI1 : Bld w.heap.size w.heap.size (Lib.byteCells []) w1 := Or.inr (Lib.BuilderAtF.of h1)
  have s1 : w.heap.size < w1.heap.size := hI1.elim (fun h => h.lt) (fun h => h.lt)
  go_wp2_with (go_at_call 29; refine (writeByte_any w.heap.size w.heap.size _ 34 _ hI1 (by simp [Lib.byteCells]) (by omega)).mono ?_)
  rintro e w2 ⟨rfl, h2, b2, k2⟩
  have hI2 : Bld w.heap.size w.heap.size (Lib.byteCells [34]) w2 := Or.inr h2
  have s2 : w.heap.size < w2.heap.size := hI2.elim (fun h => h.lt) (fun h => h.lt)
  clear h1 h2 hI1
  go_wp2
  go_loopw [] (fun wr => ∃ (pos : Nat) (acc : List UInt8), Bld w.heap.size w.heap.size (Lib.byteCells acc) wr ∧ wr.heap[w2.heap.size]? = some (.stringIter s pos) ∧ Below w.heap.size w wr ∧ Hid (acc ++ (segsAt s pos).flatMap quoteSeg ++ [34] = quoteL s.data.toList) ∧ pos ≤ s.size ∧ acc.length ≤ 5 * pos + 1) (fun wr => s.size - wr.iterPos w2.heap.size)
  case atStart =>
    refine ⟨0, [34], hI2.alloc _, World.iter_heap w2 s 0, ?_, rfl, by omega, by simp⟩
    exact (((((Below.refl _ w).alloc (Nat.le_refl _) _).trans b1).trans b2)).alloc (by omega) _
  case round =>
    obtain ⟨pos, acc, hI, hit, hbw, H, hps, hal⟩ := hrel
    have hsz := block_lt hit
    by_cases hp : pos < s.size
    · have hnx : ∀ ty, (Instr.next (.pointer (some ⟨w2.heap.size, 0, none⟩)) true ty).run Tryd.prog wr = _ := fun ty => Lib.run_next_any_at wr w2.heap.size s pos ty hit hp
      have hwd := decode_width hp
      have hd1 := decode_le s pos
      have hI3 := hI.iterAt hit (pos + (Utf8.decode s pos).2)
      have hit2 := Lib.iterAt_heap wr w2.heap.size s pos (pos + (Utf8.decode s pos).2) hit
      have hbw2 := Lib.below_iterAt hbw (k := w2.heap.size) (by omega) s (pos + (Utf8.decode s pos).2)
      have hsz2 : w.heap.size ≤ (wr.iterAt w2.heap.size s (pos + (Utf8.decode s pos).2)).heap.size := by rw [Lib.iterAt_size]; omega
      go_wp2_with (first | (go_at_call 73; refine (stands_any s pos _ _ hp hs rfl).mono ?_; rintro e w' ⟨rfl, rfl⟩) | (go_at_call 74; refine (plain_any _ _).mono ?_; rintro e w' ⟨rfl, rfl⟩) | (go_at_call 26; refine (class_any _ _).mono ?_; rintro e w' ⟨rfl, rfl⟩))
      · have hX := Lib.hid (quoteSeg_hex hp (by simp [(show plainB ((Utf8.decode s pos).1 : Nat) = false by simpa using (show (!plainB ((Utf8.decode s pos).1 : Nat)) = true by assumption))]))
        refine (writeString_any w.heap.size w.heap.size _ ⟨#[92, 120]⟩ _ hI3 (by rw [Lib.byteCells_length]; show _ + 2 ≤ _; omega) hsz2).mono ?_
        rintro e W1 ⟨rfl, h1, b1, k1⟩
        have hu := u8_lt (s[pos]'hp)
        have hq0 : 0 ≤ ((s[pos]'hp).toNat : Int) / 16 := by omega
        have hq1 : ((s[pos]'hp).toNat : Int) / 16 < 16 := by omega
        have hq2 : 0 ≤ ((s[pos]'hp).toNat : Int) % 16 := by omega
        have hq3 : ((s[pos]'hp).toNat : Int) % 16 < 16 := by omega
        have hI4 : Bld w.heap.size w.heap.size (Lib.byteCells (acc ++ [92, 120])) W1 := by rw [Lib.byteCells_append]; exact Or.inr h1
        have s4 := h1.lt
        have i4 := Lib.hid (k1.iter hit2 (by omega))
        clear h1 hI3 hit2 k1
        go_wp2_with (go_at_call 29; refine (writeByte_any w.heap.size w.heap.size _ _ _ hI4 (by rw [Lib.byteCells_length]; simp; omega) (by omega)).mono ?_)
        rintro e W2 ⟨rfl, h5, b5, k5⟩
        have hI5 : Bld w.heap.size w.heap.size (Lib.byteCells (acc ++ [92, 120] ++ [hexd ((s[pos]'hp).toNat / 16)])) W2 := by
          rw [Lib.byteCells_append]
          rw [hex_at _ (by omega)] at h5
          exact Or.inr h5
        have s5 := h5.lt
        have i5 := Lib.hid (k5.iter i4.out (by omega))
        clear h5 hI4 k5
        go_wp2_with (go_at_call 29; refine (writeByte_any w.heap.size w.heap.size _ _ _ hI5 (by rw [Lib.byteCells_length]; simp; omega) (by omega)).mono ?_)
        rintro e W3 ⟨rfl, h6, b6, k6⟩
        have hI6 : Bld w.heap.size w.heap.size (Lib.byteCells (acc ++ [92, 120] ++ [hexd ((s[pos]'hp).toNat / 16)] ++ [hexd ((s[pos]'hp).toNat % 16)])) W3 := by
          rw [Lib.byteCells_append _ [hexd ((s[pos]'hp).toNat % 16)]]
          rw [hex_at _ (by omega)] at h6
          exact Or.inr h6
        have i6 := k6.iter i5.out (by omega)
        clear h6 hI5 k6
        go_wp2
        go_roundw
        case rel =>
          refine ⟨pos + (Utf8.decode s pos).2, _, hI6, i6, ((hbw2.trans b1).trans b5).trans b6, ?_, by omega, by simp; omega⟩
          have := quote_step hp H.out hX.out
          exact Lib.hid (by simpa using this)
        case measure =>
          simp only [World.iterPos, i6, hit]
          omega
      · have hX := Lib.hid (quoteSeg_mark (show okB (s.data.toList.drop pos) = true by assumption) (by simpa using (show (!plainB ((Utf8.decode s pos).1 : Nat)) = false by assumption)) (by simpa using (show (classZ ((Utf8.decode s pos).1 : Nat) == 4) = true by assumption)))
        refine (writeByte_any w.heap.size w.heap.size _ 92 _ hI3 (by rw [Lib.byteCells_length]; omega) hsz2).mono ?_
        rintro e W1 ⟨rfl, h1, b1, k1⟩
        have hI4 : Bld w.heap.size w.heap.size (Lib.byteCells (acc ++ [92])) W1 := by rw [Lib.byteCells_append]; exact Or.inr h1
        have s4 := h1.lt
        have i4 := Lib.hid (k1.iter hit2 (by omega))
        clear h1 hI3 hit2 k1
        go_wp2_with (go_at_call 75; refine (writeRune_any w.heap.size w.heap.size _ _ (by omega) (by omega) _ hI4 (by rw [Lib.byteCells_length]; simp; omega) (by omega)).mono ?_)
        rintro e W2 ⟨rfl, h5, b5, k5⟩
        have hI5 : Bld w.heap.size w.heap.size (Lib.byteCells (acc ++ [92] ++ Lib.encodeRune ((Utf8.decode s pos).1 : Nat))) W2 := by
          rw [Lib.byteCells_append _ (Lib.encodeRune _), Lib.byteCells_encodeRune]
          exact Or.inr h5
        have i5 := k5.iter i4.out (by omega)
        have hl4 := Lib.runeCells_le ((Utf8.decode s pos).1 : Nat)
        rw [Lib.runeCells_length] at hl4
        clear h5 hI4 k5
        go_wp2
        go_roundw
        case rel =>
          refine ⟨pos + (Utf8.decode s pos).2, _, hI5, i5, (hbw2.trans b1).trans b5, ?_, by omega, by simp; omega⟩
          have := quote_step hp H.out hX.out
          exact Lib.hid (by simpa using this)
        case measure =>
          simp only [World.iterPos, i5, hit]
          omega
      · have hX := Lib.hid (quoteSeg_rune (show okB (s.data.toList.drop pos) = true by assumption) (by simpa using (show (!plainB ((Utf8.decode s pos).1 : Nat)) = false by assumption)) (by simpa using (show (classZ ((Utf8.decode s pos).1 : Nat) == 4) = false by assumption)))
        refine (writeRune_any w.heap.size w.heap.size _ _ (by omega) (by omega) _ hI3 (by rw [Lib.byteCells_length]; omega) hsz2).mono ?_
        rintro e W1 ⟨rfl, h1, b1, k1⟩
        have hI4 : Bld w.heap.size w.heap.size (Lib.byteCells (acc ++ Lib.encodeRune ((Utf8.decode s pos).1 : Nat))) W1 := by
          rw [Lib.byteCells_append, Lib.byteCells_encodeRune]
          exact Or.inr h1
        have i4 := k1.iter hit2 (by omega)
        have hl4 := Lib.runeCells_le ((Utf8.decode s pos).1 : Nat)
        rw [Lib.runeCells_length] at hl4
        clear h1 hI3 k1
        go_wp2
        go_roundw
        case rel =>
          refine ⟨pos + (Utf8.decode s pos).2, _, hI4, i4, hbw2.trans b1, ?_, by omega, by simp; omega⟩
          have := quote_step hp H.out hX.out
          exact Lib.hid (by simpa using this)
        case measure =>
          simp only [World.iterPos, i4, hit]
          omega
      · have hX := Lib.hid (quoteSeg_hex hp (by simp [show ¬ okB (s.data.toList.drop pos) = true by assumption]))
        refine (writeString_any w.heap.size w.heap.size _ ⟨#[92, 120]⟩ _ hI3 (by rw [Lib.byteCells_length]; show _ + 2 ≤ _; omega) hsz2).mono ?_
        rintro e W1 ⟨rfl, h1, b1, k1⟩
        have hu := u8_lt (s[pos]'hp)
        have hq0 : 0 ≤ ((s[pos]'hp).toNat : Int) / 16 := by omega
        have hq1 : ((s[pos]'hp).toNat : Int) / 16 < 16 := by omega
        have hq2 : 0 ≤ ((s[pos]'hp).toNat : Int) % 16 := by omega
        have hq3 : ((s[pos]'hp).toNat : Int) % 16 < 16 := by omega
        have hI4 : Bld w.heap.size w.heap.size (Lib.byteCells (acc ++ [92, 120])) W1 := by rw [Lib.byteCells_append]; exact Or.inr h1
        have s4 := h1.lt
        have i4 := Lib.hid (k1.iter hit2 (by omega))
        clear h1 hI3 hit2 k1
        go_wp2_with (go_at_call 29; refine (writeByte_any w.heap.size w.heap.size _ _ _ hI4 (by rw [Lib.byteCells_length]; simp; omega) (by omega)).mono ?_)
        rintro e W2 ⟨rfl, h5, b5, k5⟩
        have hI5 : Bld w.heap.size w.heap.size (Lib.byteCells (acc ++ [92, 120] ++ [hexd ((s[pos]'hp).toNat / 16)])) W2 := by
          rw [Lib.byteCells_append]
          rw [hex_at _ (by omega)] at h5
          exact Or.inr h5
        have s5 := h5.lt
        have i5 := Lib.hid (k5.iter i4.out (by omega))
        clear h5 hI4 k5
        go_wp2_with (go_at_call 29; refine (writeByte_any w.heap.size w.heap.size _ _ _ hI5 (by rw [Lib.byteCells_length]; simp; omega) (by omega)).mono ?_)
        rintro e W3 ⟨rfl, h6, b6, k6⟩
        have hI6 : Bld w.heap.size w.heap.size (Lib.byteCells (acc ++ [92, 120] ++ [hexd ((s[pos]'hp).toNat / 16)] ++ [hexd ((s[pos]'hp).toNat % 16)])) W3 := by
          rw [Lib.byteCells_append _ [hexd ((s[pos]'hp).toNat % 16)]]
          rw [hex_at _ (by omega)] at h6
          exact Or.inr h6
        have i6 := k6.iter i5.out (by omega)
        clear h6 hI5 k6
        go_wp2
        go_roundw
        case rel =>
          refine ⟨pos + (Utf8.decode s pos).2, _, hI6, i6, ((hbw2.trans b1).trans b5).trans b6, ?_, by omega, by simp; omega⟩
          have := quote_step hp H.out hX.out
          exact Lib.hid (by simpa using this)
        case measure =>
          simp only [World.iterPos, i6, hit]
          omega
    · have hnx : ∀ ty, (Instr.next (.pointer (some ⟨w2.heap.size, 0, none⟩)) true ty).run Tryd.prog wr = _ := fun ty => Lib.run_next_end_at wr w2.heap.size s pos ty hit hp
      have H2 := Lib.hid (segsAt_end hp)
      go_wp2_with (go_at_call 29; refine (writeByte_any w.heap.size w.heap.size _ 34 _ hI (by rw [Lib.byteCells_length]; omega) (by omega)).mono ?_)
      rintro e w3 ⟨rfl, h3, b3, k3⟩
      have h3' : Bld w.heap.size w.heap.size (Lib.byteCells (acc ++ [34])) w3 := by rw [Lib.byteCells_append]; exact Or.inr h3
      have s3 : w.heap.size < w3.heap.size := h3.lt
      go_wp2_with (go_at_call 31; refine (Tryd.Builder_String_any_k w.heap.size w.heap.size (acc ++ [34]) _ h3' (by omega)).mono ?_)
      rintro e w4 ⟨rfl, _, b4, _⟩
      go_wp2
      go_ret
      have e : acc ++ [34] = quoteL s.data.toList := by
        have := H.out
        rw [H2.out] at this
        simpa using this
      rw [e]
      exact ⟨rfl, (hbw.trans b3).trans b4⟩
end Go.Proofs.YtponiboiijgllaaDoor
