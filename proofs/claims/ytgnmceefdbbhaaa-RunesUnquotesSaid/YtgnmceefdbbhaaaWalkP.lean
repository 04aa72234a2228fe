/- What the reference's Join answers of any numbers: what the code's answers. Condition: at most 1000 numbers, each of 32 bits. -/
import Derived.Test.YtgnmceefdbbhaaaWalkO
namespace Go.Proofs.Ytgnmceefdbbhaaa
open Go.RowKit

theorem bc_one {r : Int} (h0 : 0 ≤ r) (h1 : r ≤ 127) : Lib.byteCells (Lib.encodeRune r) = [.int .u8 r] := by
  rw [Lib.byteCells_encodeRune, Lib.runeCells, Lib.encodeRuneZ_one h0 h1]
  rfl
theorem bc_two {r : Int} (h0 : 128 ≤ r) (h1 : r ≤ 2047) : Lib.byteCells (Lib.encodeRune r) = [.int .u8 (192 + r / 64), .int .u8 (128 + r % 64)] := by
  rw [Lib.byteCells_encodeRune, Lib.runeCells, Lib.encodeRuneZ_two h0 h1]
  rfl
theorem bc_three {r : Int} (h : (2048 ≤ r ∧ r < 55296) ∨ (57343 < r ∧ r ≤ 65535)) : Lib.byteCells (Lib.encodeRune r) = [.int .u8 (224 + r / 4096), .int .u8 (128 + r / 64 % 64), .int .u8 (128 + r % 64)] := by
  rw [Lib.byteCells_encodeRune, Lib.runeCells, Lib.encodeRuneZ_three h]
  rfl
theorem bc_four {r : Int} (h0 : 65536 ≤ r) (h1 : r ≤ 1114111) : Lib.byteCells (Lib.encodeRune r) = [.int .u8 (240 + r / 262144), .int .u8 (128 + r / 4096 % 64), .int .u8 (128 + r / 64 % 64), .int .u8 (128 + r % 64)] := by
  rw [Lib.byteCells_encodeRune, Lib.runeCells, Lib.encodeRuneZ_four h0 h1]
  rfl
theorem bc_bad {r : Int} (h : r < 0 ∨ (55296 ≤ r ∧ r ≤ 57343) ∨ 1114111 < r) : Lib.byteCells (Lib.encodeRune r) = [.int .u8 239, .int .u8 191, .int .u8 189] := by
  rw [Lib.byteCells_encodeRune, Lib.runeCells, Lib.encodeRuneZ_bad h]
  rfl
theorem len_of {l : List UInt8} {m : Nat} {vs : List Value} (h : Lib.byteCells l = vs) (hm : vs.length = m) : l.length = m := by rw [← Lib.byteCells_length, h, hm]
theorem news_row (w : World) (vs : Array Value) {l : List UInt8} (h : Lib.byteCells l = vs.toList) : ∀ j u, (Lib.byteCells l)[j]? = some u → (w.alloc (.cells vs 5)).cell? ((⟨w.heap.size, 0, none⟩ : Addr).add j) = some u := by
  intro j u hj
  rw [h] at hj
  rw [show (⟨w.heap.size, 0, none⟩ : Addr).add j = ⟨w.heap.size, j, none⟩ by simp [Addr.add]; rintro rfl; rfl]
  rw [Lib.cell_of_heap (alloc_new w (.cells vs 5)) j]
  simpa using hj

set_option maxHeartbeats 4000000 in
set_option maxRecDepth 100000 in
theorem refjoin_any (a : Option Addr) (l : List Int) (c : Nat) (w : World) (hl : l.length ≤ 1000) (hw : ∀ r ∈ l, -2147483648 ≤ r ∧ r ≤ 2147483647) (hs : Src w a l) :
    Calls Try.prog 17 #[.slice a l.length c] w fun e w' => e = .returned (.string ⟨(joinL l).toArray⟩) ∧ Below w.heap.size w w' := by
  have HS := Lib.hid hs
  have HW := Lib.hid hw
  clear hs hw
  go_enter Try.func17, Try.ntmps17
  go_wp2
  go_loopw [3, 4] (fun v i wr => ∃ (k : Nat) (acc : List UInt8), i = .int .i64 k ∧ Owns wr w.heap.size v acc ∧ Below w.heap.size w wr ∧ Hid (acc ++ joinL (l.drop k) = joinL l) ∧ k ≤ l.length ∧ acc.length ≤ 4 * k) (fun _ i _ => l.length - (intOf i).toNat)
  case atStart => exact ⟨0, [], rfl, World.ownsRow_nil _ _ _ _, Below.refl _ _, rfl, by omega, by simp⟩
  case round =>
    obtain ⟨k, acc, rfl, hown, hb, H, hk, hal⟩ := hrel
    have hsz := hb.size
    by_cases hp : k < l.length
    · obtain ⟨r, hr⟩ : ∃ r, r = l[k]'hp := ⟨_, rfl⟩
      have hr0 := HW.out r (by rw [hr]; exact List.getElem_mem hp)
      have HR := Lib.hid hr.symm
      have hl4 := enc_length r
      rcases HS.out with h0 | ⟨b, off, rfl, hlt, hc⟩
      · rw [h0] at hp
        simp at hp
      · have hcell : wr.cell? ⟨b, off + k, none⟩ = some (.int .i32 r) := by
          rw [hb.cell (p := ⟨b, off + k, none⟩) hlt, hr]
          exact hc k hp
        clear hc hr
        have hall : (0 ≤ r ∧ r ≤ 127) ∨ (128 ≤ r ∧ r ≤ 2047) ∨ (2048 ≤ r ∧ r < 55296) ∨ (57343 < r ∧ r ≤ 65535) ∨ (65536 ≤ r ∧ r ≤ 1114111) ∨ (-2147483648 ≤ r ∧ r < 0) ∨ (55296 ≤ r ∧ r ≤ 57343) ∨ (1114111 < r ∧ r ≤ 2147483647) := by omega
        rcases hall with c | c | c | c | c | c | c | c
        · have hB := Lib.hid (bc_one c.1 c.2)
          obtain ⟨ca, cb⟩ := c
          go_wp2_with (at_builtin; refine wpList_append_bytes rfl (.tmp 32) (.tmp 35) rfl w.heap.size _ acc rfl (hown.alloc _) ⟨wr.heap.size, 0, none⟩ 1 1 (Lib.encodeRune r) rfl (len_of hB.out rfl) (news_row wr #[.int .u8 r] hB.out) (by omega) (by simp; omega) ?_)
          intro v' w3 hown' hgrow
          have b3 := below_append hb hown hgrow
          go_wp2
          go_roundw
          case rel => exact ⟨k + 1, _, by go_num, hown', b3, Lib.hid (join_step hp HR.out H.out), by omega, by simp; omega⟩
          case measure => simp [intOf]; omega
        · have hB := Lib.hid (bc_two c.1 c.2)
          obtain ⟨ca, cb⟩ := c
          go_wp2_with (at_builtin; refine wpList_append_bytes rfl (.tmp 39) (.tmp 48) rfl w.heap.size _ acc rfl (hown.alloc _) ⟨wr.heap.size, 0, none⟩ 2 2 (Lib.encodeRune r) rfl (len_of hB.out rfl) (news_row wr #[.int .u8 (192 + r / 64), .int .u8 (128 + r % 64)] hB.out) (by omega) (by simp; omega) ?_)
          intro v' w3 hown' hgrow
          have b3 := below_append hb hown hgrow
          go_wp2
          go_roundw
          case rel => exact ⟨k + 1, _, by go_num, hown', b3, Lib.hid (join_step hp HR.out H.out), by omega, by simp; omega⟩
          case measure => simp [intOf]; omega
        · have hB := Lib.hid (bc_three (.inl c))
          obtain ⟨ca, cb⟩ := c
          go_wp2_with (at_builtin; refine wpList_append_bytes rfl (.tmp 52) (.tmp 66) rfl w.heap.size _ acc rfl (hown.alloc _) ⟨wr.heap.size, 0, none⟩ 3 3 (Lib.encodeRune r) rfl (len_of hB.out rfl) (news_row wr #[.int .u8 (224 + r / 4096), .int .u8 (128 + r / 64 % 64), .int .u8 (128 + r % 64)] hB.out) (by omega) (by simp; omega) ?_)
          intro v' w3 hown' hgrow
          have b3 := below_append hb hown hgrow
          go_wp2
          go_roundw
          case rel => exact ⟨k + 1, _, by go_num, hown', b3, Lib.hid (join_step hp HR.out H.out), by omega, by simp; omega⟩
          case measure => simp [intOf]; omega
        · have hB := Lib.hid (bc_three (.inr c))
          obtain ⟨ca, cb⟩ := c
          go_wp2_with (at_builtin; refine wpList_append_bytes rfl (.tmp 52) (.tmp 66) rfl w.heap.size _ acc rfl (hown.alloc _) ⟨wr.heap.size, 0, none⟩ 3 3 (Lib.encodeRune r) rfl (len_of hB.out rfl) (news_row wr #[.int .u8 (224 + r / 4096), .int .u8 (128 + r / 64 % 64), .int .u8 (128 + r % 64)] hB.out) (by omega) (by simp; omega) ?_)
          intro v' w3 hown' hgrow
          have b3 := below_append hb hown hgrow
          go_wp2
          go_roundw
          case rel => exact ⟨k + 1, _, by go_num, hown', b3, Lib.hid (join_step hp HR.out H.out), by omega, by simp; omega⟩
          case measure => simp [intOf]; omega
        · have hB := Lib.hid (bc_four c.1 c.2)
          obtain ⟨ca, cb⟩ := c
          go_wp2_with (at_builtin; refine wpList_append_bytes rfl (.tmp 68) (.tmp 87) rfl w.heap.size _ acc rfl (hown.alloc _) ⟨wr.heap.size, 0, none⟩ 4 4 (Lib.encodeRune r) rfl (len_of hB.out rfl) (news_row wr #[.int .u8 (240 + r / 262144), .int .u8 (128 + r / 4096 % 64), .int .u8 (128 + r / 64 % 64), .int .u8 (128 + r % 64)] hB.out) (by omega) (by simp; omega) ?_)
          intro v' w3 hown' hgrow
          have b3 := below_append hb hown hgrow
          go_wp2
          go_roundw
          case rel => exact ⟨k + 1, _, by go_num, hown', b3, Lib.hid (join_step hp HR.out H.out), by omega, by simp; omega⟩
          case measure => simp [intOf]; omega
        · have hB := Lib.hid (bc_bad (.inl c.2))
          obtain ⟨ca, cb⟩ := c
          go_wp2_with (at_builtin; refine wpList_append_bytes rfl (.tmp 52) (.tmp 66) rfl w.heap.size _ acc rfl (hown.alloc _) ⟨wr.heap.size, 0, none⟩ 3 3 (Lib.encodeRune r) rfl (len_of hB.out rfl) (news_row wr #[.int .u8 239, .int .u8 191, .int .u8 189] hB.out) (by omega) (by simp; omega) ?_)
          intro v' w3 hown' hgrow
          have b3 := below_append hb hown hgrow
          go_wp2
          go_roundw
          case rel => exact ⟨k + 1, _, by go_num, hown', b3, Lib.hid (join_step hp HR.out H.out), by omega, by simp; omega⟩
          case measure => simp [intOf]; omega
        · have hB := Lib.hid (bc_bad (.inr (.inl c)))
          obtain ⟨ca, cb⟩ := c
          go_wp2_with (at_builtin; refine wpList_append_bytes rfl (.tmp 52) (.tmp 66) rfl w.heap.size _ acc rfl (hown.alloc _) ⟨wr.heap.size, 0, none⟩ 3 3 (Lib.encodeRune r) rfl (len_of hB.out rfl) (news_row wr #[.int .u8 239, .int .u8 191, .int .u8 189] hB.out) (by omega) (by simp; omega) ?_)
          intro v' w3 hown' hgrow
          have b3 := below_append hb hown hgrow
          go_wp2
          go_roundw
          case rel => exact ⟨k + 1, _, by go_num, hown', b3, Lib.hid (join_step hp HR.out H.out), by omega, by simp; omega⟩
          case measure => simp [intOf]; omega
        · have hB := Lib.hid (bc_bad (.inr (.inr c.1)))
          obtain ⟨ca, cb⟩ := c
          go_wp2_with (at_builtin; refine wpList_append_bytes rfl (.tmp 52) (.tmp 66) rfl w.heap.size _ acc rfl (hown.alloc _) ⟨wr.heap.size, 0, none⟩ 3 3 (Lib.encodeRune r) rfl (len_of hB.out rfl) (news_row wr #[.int .u8 239, .int .u8 191, .int .u8 189] hB.out) (by omega) (by simp; omega) ?_)
          intro v' w3 hown' hgrow
          have b3 := below_append hb hown hgrow
          go_wp2
          go_roundw
          case rel => exact ⟨k + 1, _, by go_num, hown', b3, Lib.hid (join_step hp HR.out H.out), by omega, by simp; omega⟩
          case measure => simp [intOf]; omega
    · have HE := Lib.hid (join_end hp H.out)
      have hown2 := hown
      rcases hown2.2 with ⟨rfl, h0⟩ | ⟨g, cap, cur, rfl, _⟩
      · obtain rfl := List.eq_nil_of_length_eq_zero h0
        have hcv := run_convert_bytes_nil (P := Try.prog) wr 40 5 Try.underlying40 Try.underlying5 0 0 9 Try.underlying9
        clear hown hown2
        go_wp2
        go_ret
        rw [← HE.out]
        exact ⟨rfl, hb⟩
      · have hcv := run_convert_bytes_back (P := Try.prog) wr 40 9 5 ⟨g, 0, none⟩ cap acc Try.underlying40 Try.underlying5 Try.underlying9 (fun j hj => World.ownsRow.cells hown (g := g) rfl j _ (by simp only [Lib.byteCells, List.getElem?_map, List.getElem?_eq_getElem hj]; rfl))
        clear hown hown2
        go_wp2
        go_ret
        rw [← HE.out]
        exact ⟨rfl, hb⟩
end Go.Proofs.Ytgnmceefdbbhaaa
