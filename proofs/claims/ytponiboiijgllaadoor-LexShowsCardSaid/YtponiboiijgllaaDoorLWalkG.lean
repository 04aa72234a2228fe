/- What lex.wordOf and the reference's word answer of any text. Condition: the text has at most 1000000 bytes. -/
import Derived.Test.YtponiboiijgllaaDoorLWalkE
import Derived.Test.YtponiboiijgllaaDoorLWalkF
import Derived.Test.YtponiboiijgllaaDoorRWalkU
import Derived.Test.YtponiboiijgllaaDoorBWalkG
namespace Go.Proofs.YtponiboiijgllaaDoor
open Go.RowKit
set_option maxRecDepth 100000

theorem good_unq {s : ByteArray} (hg : Good s) : unquoteL s.data.toList = unq ((s.data.toList.drop 1).take (s.size - 2)) := by
  have hw := good_within hg
  have h0 : s.data.toList.head? = some 34 := by rw [hw]; rfl
  have h1 : s.data.toList.getLast? = some 34 := by
    rw [hw]
    exact List.getLast?_concat (l := 34 :: _)
  unfold unquoteL
  rw [if_pos ⟨by rw [len_data]; exact hg.two, h0, h1, hg.right⟩, len_data]
theorem bad_unq {s : ByteArray} (hb : Bad s) : unquoteL s.data.toList = none := by
  unfold unquoteL
  rw [if_neg]
  rintro ⟨h2, h34, hl, hr⟩
  rw [len_data] at h2
  have h34' : (s[0]'(by omega)).toNat = 34 := by
    rw [head_at (by omega : 0 < s.size)] at h34
    simp only [Option.some.injEq] at h34
    rw [h34]; rfl
  have hl' : (s[s.size - 1]'(by omega)).toNat = 34 := by
    rw [List.getLast?_eq_getElem?, len_data, List.getElem?_eq_getElem (by rw [len_data]; omega)] at hl
    simp only [Option.some.injEq] at hl
    have e : s.data.toList[s.size - 1]'(by rw [len_data]; omega) = s[s.size - 1]'(by omega) := rfl
    rw [← e, hl]; rfl
  rcases hb with h | ⟨h, h0⟩ | ⟨h, h0, h1⟩ | ⟨h, h0, h1, h2⟩
  · omega
  · exact h0 h34'
  · exact h1 hl'
  · omega
theorem lexUnquote_any (s : ByteArray) (w : World) (hs : s.size ≤ 1000000) :
    Calls Tryd.prog 67 #[.string s] w fun e w' => e = .returned (resV (unquoteL s.data.toList)) ∧ Below w.heap.size w w' := by
  rcases good_or_bad s with hg | hb
  · rw [good_unq hg]; exact unquote_good s w hs hg
  · rw [bad_unq hb]; exact unquote_bad s w hs hb
theorem refUnquote_any (s : ByteArray) (w : World) (hs : s.size ≤ 1000000) :
    Calls Tryd.prog 69 #[.string s] w fun e w' => e = .returned (resV (unquoteL s.data.toList)) ∧ Below w.heap.size w w' := by
  rcases good_or_bad s with hg | hb
  · rw [good_unq hg]; exact refunquote_good s w hs hg
  · rw [bad_unq hb]; exact refunquote_bad s w hs hb
theorem clone_any (s : ByteArray) (w : World) (hs : s.size ≤ 1000000) : Calls Tryd.prog 68 #[.string s] w fun e w' => e = .returned (.string s) ∧ Below w.heap.size w w' := by
  go_enter Tryd.func68, Tryd.ntmps68
  go_wp2_with (go_at_call 84; refine (Tryd.stringslite_Clone s _ (by omega)).mono ?_)
  rintro e w1 ⟨rfl, b1⟩
  go_wp2
  go_ret
  exact ⟨rfl, b1⟩

def wordV (o : Option Bx) : Value := match o with | some b => .tuple #[.agg #[b.v], .bool true] | none => .tuple #[.agg #[Bx.no.v], .bool false]
theorem new_box (w : World) (x : Value) (t : TypeId) : (w.alloc (.cells #[x] t)).cell? ⟨w.heap.size, 0, none⟩ = some x ∧ (w.alloc (.cells #[x] t)).frozen? ⟨w.heap.size, 0, none⟩ = false := by
  constructor <;> simp [go_sem]

set_option maxHeartbeats 2000000 in
theorem wordOf_text (s : ByteArray) (w : World) (hs : s.size ≤ 1000000) (t : List UInt8) (h : unquoteL s.data.toList = some t) :
    Calls Tryd.prog 43 #[.string s] w fun e w' => e = .returned (wordV (some (.txt ⟨t.toArray⟩))) ∧ Below w.heap.size w w' := by
  have st := st_v
  have H := Lib.hid h
  clear h
  obtain ⟨c0, f0⟩ := new_box w .nilIface 52
  go_enter Tryd.func43, Tryd.ntmps43
  go_wp2_with (go_at_call 67; refine (lexUnquote_any s _ hs).mono ?_)
  rintro e w1 ⟨rfl, b1⟩
  have s1 := b1.size
  simp only [World.alloc, Array.size_push] at s1
  rw [H.out]
  simp only [resV]
  have c1 := keep b1 c0 (by simp)
  have f1 := fkeep b1 f0 (by simp)
  clear c0 f0
  go_wp2_with (go_at_call 53; refine (oftxt_any _ _).mono ?_)
  rintro e w2 ⟨rfl, b2⟩
  have c2 := keep b2 c1 (by omega)
  have f2 := fkeep b2 f1 (by omega)
  have s2 := b2.size
  clear c1 f1
  go_wp2
  exact bodyPost_ret (v := wordV (some (.txt ⟨t.toArray⟩))) (by simp [results, Tryd.results43, go_sem, c2, wordV]) rfl ⟨rfl, ((((Below.refl _ _).alloc (Nat.le_refl _) _).trans (b1.mono (by simp))).trans (b2.mono (by omega))).setCell (by simp) _⟩
set_option maxHeartbeats 2000000 in
theorem wordOf_num (s : ByteArray) (w : World) (hs : s.size ≤ 1000000) (n : Int) (h : unquoteL s.data.toList = none) (h2 : numL s.data.toList = some n) :
    Calls Tryd.prog 43 #[.string s] w fun e w' => e = .returned (wordV (some (.num n))) ∧ Below w.heap.size w w' := by
  have st := st_v
  have H := Lib.hid h
  have H2 := Lib.hid h2
  clear h h2
  obtain ⟨c0, f0⟩ := new_box w .nilIface 52
  go_enter Tryd.func43, Tryd.ntmps43
  go_wp2_with (go_at_call 67; refine (lexUnquote_any s _ hs).mono ?_)
  rintro e w1 ⟨rfl, b1⟩
  have s1 := b1.size
  simp only [World.alloc, Array.size_push] at s1
  rw [H.out]
  simp only [resV]
  have c1 := keep b1 c0 (by simp)
  have f1 := fkeep b1 f0 (by simp)
  clear c0 f0
  go_wp2_with (go_at_call 11; refine (lexNumber_any s _ hs).mono ?_)
  rintro e w2 ⟨rfl, b2⟩
  have s2 := b2.size
  rw [H2.out]
  simp only [numV]
  have c2 := keep b2 c1 (by omega)
  have f2 := fkeep b2 f1 (by omega)
  clear c1 f1
  go_wp2_with (go_at_call 51; refine (ofnum_any _ _).mono ?_)
  rintro e w3 ⟨rfl, b3⟩
  have c3 := keep b3 c2 (by omega)
  have f3 := fkeep b3 f2 (by omega)
  have s3 := b3.size
  clear c2 f2
  go_wp2
  exact bodyPost_ret (v := wordV (some (.num n))) (by simp [results, Tryd.results43, go_sem, c3, wordV]) rfl ⟨rfl, (((((Below.refl _ _).alloc (Nat.le_refl _) _).trans (b1.mono (by simp))).trans (b2.mono (by omega))).trans (b3.mono (by omega))).setCell (by simp) _⟩
set_option maxHeartbeats 2000000 in
theorem wordOf_name (s : ByteArray) (w : World) (hs : s.size ≤ 1000000) (h : unquoteL s.data.toList = none) (h2 : numL s.data.toList = none) (h3 : nameL s.data.toList = true) :
    Calls Tryd.prog 43 #[.string s] w fun e w' => e = .returned (wordV (some (.nam s))) ∧ Below w.heap.size w w' := by
  have st := st_v
  have H := Lib.hid h
  have H2 := Lib.hid h2
  have H3 := Lib.hid h3
  clear h h2 h3
  obtain ⟨c0, f0⟩ := new_box w .nilIface 52
  go_enter Tryd.func43, Tryd.ntmps43
  go_wp2_with (go_at_call 67; refine (lexUnquote_any s _ hs).mono ?_)
  rintro e w1 ⟨rfl, b1⟩
  have s1 := b1.size
  simp only [World.alloc, Array.size_push] at s1
  rw [H.out]
  simp only [resV]
  have c1 := keep b1 c0 (by simp)
  have f1 := fkeep b1 f0 (by simp)
  clear c0 f0
  go_wp2_with (go_at_call 11; refine (lexNumber_any s _ hs).mono ?_)
  rintro e w2 ⟨rfl, b2⟩
  have s2 := b2.size
  rw [H2.out]
  simp only [numV]
  have c2 := keep b2 c1 (by omega)
  have f2 := fkeep b2 f1 (by omega)
  clear c1 f1
  go_wp2_with (go_at_call 13; refine (lexName_any s _ hs).mono ?_)
  rintro e w3 ⟨rfl, b3⟩
  have s3 := b3.size
  rw [H3.out]
  have c3 := keep b3 c2 (by omega)
  have f3 := fkeep b3 f2 (by omega)
  clear c2 f2
  go_wp2_with (go_at_call 68; refine (clone_any s _ hs).mono ?_)
  rintro e w4 ⟨rfl, b4⟩
  have s4 := b4.size
  have c4 := keep b4 c3 (by omega)
  have f4 := fkeep b4 f3 (by omega)
  clear c3 f3
  go_wp2_with (go_at_call 52; refine (ofnam_any _ _).mono ?_)
  rintro e w5 ⟨rfl, b5⟩
  have s5 := b5.size
  have c5 := keep b5 c4 (by omega)
  have f5 := fkeep b5 f4 (by omega)
  clear c4 f4
  go_wp2
  exact bodyPost_ret (v := wordV (some (.nam s))) (by simp [results, Tryd.results43, go_sem, c5, wordV]) rfl ⟨rfl, (((((((Below.refl _ _).alloc (Nat.le_refl _) _).trans (b1.mono (by simp))).trans (b2.mono (by omega))).trans (b3.mono (by omega))).trans (b4.mono (by omega))).trans (b5.mono (by omega))).setCell (by simp) _⟩
set_option maxHeartbeats 2000000 in
theorem wordOf_none (s : ByteArray) (w : World) (hs : s.size ≤ 1000000) (h : unquoteL s.data.toList = none) (h2 : numL s.data.toList = none) (h3 : nameL s.data.toList = false) :
    Calls Tryd.prog 43 #[.string s] w fun e w' => e = .returned (wordV none) ∧ Below w.heap.size w w' := by
  have st := st_v
  have H := Lib.hid h
  have H2 := Lib.hid h2
  have H3 := Lib.hid h3
  clear h h2 h3
  obtain ⟨c0, f0⟩ := new_box w .nilIface 52
  go_enter Tryd.func43, Tryd.ntmps43
  go_wp2_with (go_at_call 67; refine (lexUnquote_any s _ hs).mono ?_)
  rintro e w1 ⟨rfl, b1⟩
  have s1 := b1.size
  simp only [World.alloc, Array.size_push] at s1
  rw [H.out]
  simp only [resV]
  have c1 := keep b1 c0 (by simp)
  have f1 := fkeep b1 f0 (by simp)
  clear c0 f0
  go_wp2_with (go_at_call 11; refine (lexNumber_any s _ hs).mono ?_)
  rintro e w2 ⟨rfl, b2⟩
  have s2 := b2.size
  rw [H2.out]
  simp only [numV]
  have c2 := keep b2 c1 (by omega)
  have f2 := fkeep b2 f1 (by omega)
  clear c1 f1
  go_wp2_with (go_at_call 13; refine (lexName_any s _ hs).mono ?_)
  rintro e w3 ⟨rfl, b3⟩
  have s3 := b3.size
  rw [H3.out]
  have c3 := keep b3 c2 (by omega)
  have f3 := fkeep b3 f2 (by omega)
  clear c2 f2
  go_wp2
  exact bodyPost_ret (v := wordV none) (by simp [results, Tryd.results43, go_sem, c3, wordV, Bx.v]) rfl ⟨rfl, (((((Below.refl _ _).alloc (Nat.le_refl _) _).trans (b1.mono (by simp))).trans (b2.mono (by omega))).trans (b3.mono (by omega))).setCell (by simp) _⟩
theorem wordOf_any (s : ByteArray) (w : World) (hs : s.size ≤ 1000000) :
    Calls Tryd.prog 43 #[.string s] w fun e w' => e = .returned (wordV (wordL s.data.toList)) ∧ Below w.heap.size w w' := by
  unfold wordL
  cases h : unquoteL s.data.toList with
  | some t => exact wordOf_text s w hs t h
  | none =>
    simp only
    cases h2 : numL s.data.toList with
    | some n => exact wordOf_num s w hs n h h2
    | none =>
      simp only
      cases h3 : nameL s.data.toList with
      | true => exact wordOf_name s w hs h h2 h3
      | false => exact wordOf_none s w hs h h2 h3

/-- What the reference's word answers: k, n, x, ok. -/
def RefW (l : List UInt8) (k n : Int) (x : ByteArray) (ok : Bool) : Prop := (ok = true ∧ ∃ b, wordL l = some b ∧ k = b.kd ∧ n = b.int ∧ x = b.str) ∨ (ok = false ∧ wordL l = none)
def refBox (k n : Int) (x : ByteArray) : Value := .agg #[.int .i64 k, .int .i64 n, .string x]
theorem new_three (w : World) (x y z : Value) (t : TypeId) : (w.alloc (.cells #[x, y, z] t)).cell? ⟨w.heap.size, 0, none⟩ = some x ∧ (w.alloc (.cells #[x, y, z] t)).cell? ⟨w.heap.size, 1, none⟩ = some y ∧ (w.alloc (.cells #[x, y, z] t)).cell? ⟨w.heap.size, 2, none⟩ = some z ∧ (w.alloc (.cells #[x, y, z] t)).frozen? ⟨w.heap.size, 0, none⟩ = false ∧ (w.alloc (.cells #[x, y, z] t)).frozen? ⟨w.heap.size, 1, none⟩ = false ∧ (w.alloc (.cells #[x, y, z] t)).frozen? ⟨w.heap.size, 2, none⟩ = false := by
  refine ⟨?_, ?_, ?_, ?_, ?_, ?_⟩ <;> simp [go_sem]
set_option maxHeartbeats 2000000 in
theorem refword_quote (s : ByteArray) (w : World) (hs : s.size ≤ 1000000) (h0 : 0 < s.size) (h34 : (s[0]'h0).toNat = 34) :
    Calls Tryd.prog 46 #[.string s] w fun e w' => ∃ k n x ok, e = .returned (.tuple #[refBox k n x, .bool ok]) ∧ RefW s.data.toList k n x ok ∧ Below w.heap.size w w' := by
  have hq : wordL s.data.toList = (unquoteL s.data.toList).map fun x => .txt ⟨x.toArray⟩ := by
    have e := drop_at h0
    rw [List.drop_zero, (u8_eq (s[0]'h0) 34 (by omega)).2 h34] at e
    rw [e]
    exact wordL_quote _
  have HQ := Lib.hid hq
  have t34 : (((s[0]'h0).toNat : Int) == 34) = true := by simp; omega
  clear hq h34
  obtain ⟨c0, c1, c2, f0, f1, f2⟩ := new_three w (.int .i64 0) (.int .i64 0) (.string ⟨#[]⟩) 43
  cases hu : unquoteL s.data.toList with
  | some t =>
    have HU := Lib.hid hu
    clear hu
    go_enter Tryd.func46, Tryd.ntmps46
    go_wp2_with (go_at_call 69; refine (refUnquote_any s _ hs).mono ?_)
    rintro e w1 ⟨rfl, b1⟩
    have s1 := b1.size
    simp only [World.alloc, Array.size_push] at s1
    rw [HU.out]
    simp only [resV]
    have c0' := keep b1 c0 (by simp)
    have c1' := keep b1 c1 (by simp)
    have c2' := keep b1 c2 (by simp)
    have f0' := fkeep b1 f0 (by simp)
    have f1' := fkeep b1 f1 (by simp)
    have f2' := fkeep b1 f2 (by simp)
    clear c0 c1 c2 f0 f1 f2
    go_wp2
    exact bodyPost_ret (v := .tuple #[refBox 3 0 ⟨t.toArray⟩, .bool true]) (by simp [results, Tryd.results46, go_sem, c0', c1', c2', refBox]) rfl ⟨3, 0, ⟨t.toArray⟩, true, rfl, .inl ⟨rfl, .txt ⟨t.toArray⟩, by rw [HQ.out, HU.out]; rfl, rfl, rfl, rfl⟩, (((((Below.refl _ _).alloc (Nat.le_refl _) _).trans (b1.mono (by simp))).setCell (by simp) _).setCell (by simp) _).setCell (by simp) _⟩
  | none =>
    have HU := Lib.hid hu
    clear hu
    go_enter Tryd.func46, Tryd.ntmps46
    go_wp2_with (go_at_call 69; refine (refUnquote_any s _ hs).mono ?_)
    rintro e w1 ⟨rfl, b1⟩
    have s1 := b1.size
    simp only [World.alloc, Array.size_push] at s1
    rw [HU.out]
    simp only [resV]
    have c0' := keep b1 c0 (by simp)
    have c1' := keep b1 c1 (by simp)
    have c2' := keep b1 c2 (by simp)
    have f0' := fkeep b1 f0 (by simp)
    have f1' := fkeep b1 f1 (by simp)
    have f2' := fkeep b1 f2 (by simp)
    clear c0 c1 c2 f0 f1 f2
    go_wp2
    exact bodyPost_ret (v := .tuple #[refBox 3 0 ⟨#[]⟩, .bool false]) (by simp [results, Tryd.results46, go_sem, c0', c1', c2', refBox]) rfl ⟨3, 0, ⟨#[]⟩, false, rfl, .inr ⟨rfl, by rw [HQ.out, HU.out]; rfl⟩, (((((Below.refl _ _).alloc (Nat.le_refl _) _).trans (b1.mono (by simp))).setCell (by simp) _).setCell (by simp) _).setCell (by simp) _⟩
end Go.Proofs.YtponiboiijgllaaDoor
