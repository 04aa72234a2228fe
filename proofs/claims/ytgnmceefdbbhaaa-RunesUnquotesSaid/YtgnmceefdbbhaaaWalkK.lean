/- What the reference's value answers of a rune's bytes: the rune. No condition but that they are a rune's. -/
import Derived.Test.YtgnmceefdbbhaaaWalkI
import Derived.Handy
namespace Go.Proofs.Ytgnmceefdbbhaaa
open Go.RowKit

set_option maxHeartbeats 1000000 in
theorem value_1 (a : UInt8) (w : World) (h : a.toNat < 128) : Calls Try.prog 27 #[.string ⟨#[a]⟩] w fun e w' => e = .returned (.int .i32 (decL [a]).1) ∧ w = w' := by
  have H := Lib.hid (decL_one h [])
  have ha := u8_lt a
  go_enter Try.func27, Try.ntmps27
  go_wp2
  go_rounds 1
  go_ret
  refine ⟨ret_int ?_, rfl⟩
  rw [H.out]
  simp only [show ∀ k, (⟨#[a]⟩ : ByteArray)[0]'k = a from fun _ => rfl]
  simp (disch := omega) only [IntWalk.wrap32_in]
set_option maxHeartbeats 1000000 in
theorem value_2 (a b : UInt8) (w : World) (h : two a b) : Calls Try.prog 27 #[.string ⟨#[a, b]⟩] w fun e w' => e = .returned (.int .i32 (decL [a, b]).1) ∧ w = w' := by
  have H := Lib.hid (decL_two h [])
  have ha := u8_lt a
  have hb := u8_lt b
  unfold two cont at h
  go_enter Try.func27, Try.ntmps27
  go_wp2
  go_rounds 2
  go_ret
  refine ⟨ret_int ?_, rfl⟩
  rw [H.out]
  simp only [show ∀ k, (⟨#[a, b]⟩ : ByteArray)[0]'k = a from fun _ => rfl, show ∀ k, (⟨#[a, b]⟩ : ByteArray)[1]'k = b from fun _ => rfl]
  simp (disch := omega) only [IntWalk.wrap32_in]
  omega
set_option maxHeartbeats 1000000 in
theorem value_3 (a b c : UInt8) (w : World) (h : three a b c) : Calls Try.prog 27 #[.string ⟨#[a, b, c]⟩] w fun e w' => e = .returned (.int .i32 (decL [a, b, c]).1) ∧ w = w' := by
  have H := Lib.hid (decL_three h [])
  have ha := u8_lt a
  have hb := u8_lt b
  have hc := u8_lt c
  unfold three cont at h
  go_enter Try.func27, Try.ntmps27
  go_wp2
  go_rounds 3
  go_ret
  refine ⟨ret_int ?_, rfl⟩
  rw [H.out]
  simp only [show ∀ k, (⟨#[a, b, c]⟩ : ByteArray)[0]'k = a from fun _ => rfl, show ∀ k, (⟨#[a, b, c]⟩ : ByteArray)[1]'k = b from fun _ => rfl, show ∀ k, (⟨#[a, b, c]⟩ : ByteArray)[2]'k = c from fun _ => rfl]
  simp (disch := omega) only [IntWalk.wrap32_in]
  omega
set_option maxHeartbeats 1000000 in
theorem value_4 (a b c d : UInt8) (w : World) (h : four a b c d) : Calls Try.prog 27 #[.string ⟨#[a, b, c, d]⟩] w fun e w' => e = .returned (.int .i32 (decL [a, b, c, d]).1) ∧ w = w' := by
  have H := Lib.hid (decL_four h [])
  have ha := u8_lt a
  have hb := u8_lt b
  have hc := u8_lt c
  have hd := u8_lt d
  unfold four cont at h
  go_enter Try.func27, Try.ntmps27
  go_wp2
  go_rounds 4
  go_ret
  refine ⟨ret_int ?_, rfl⟩
  rw [H.out]
  simp only [show ∀ k, (⟨#[a, b, c, d]⟩ : ByteArray)[0]'k = a from fun _ => rfl, show ∀ k, (⟨#[a, b, c, d]⟩ : ByteArray)[1]'k = b from fun _ => rfl, show ∀ k, (⟨#[a, b, c, d]⟩ : ByteArray)[2]'k = c from fun _ => rfl, show ∀ k, (⟨#[a, b, c, d]⟩ : ByteArray)[3]'k = d from fun _ => rfl]
  simp (disch := omega) only [IntWalk.wrap32_in]
  omega
theorem text_of {t : ByteArray} {l : List UInt8} (h : t.data.toList = l) : t = ⟨l.toArray⟩ := by
  rw [← h]
theorem value_any (t : ByteArray) (l m : List UInt8) (w : World) (hs : Stands (l ++ m)) (hl : (decL (l ++ m)).2 = l.length) (ht : t.data.toList = l) :
    Calls Try.prog 27 #[.string t] w fun e w' => e = .returned (.int .i32 (decL (l ++ m)).1) ∧ w = w' := by
  rw [text_of ht]
  rcases stands_cases hs with ⟨a, u, e, h⟩ | ⟨a, b, u, e, h⟩ | ⟨a, b, c, u, e, h⟩ | ⟨a, b, c, d, u, e, h⟩
  · rw [e, decL_one h] at hl
    rw [e, decL_one h u, ← decL_one h []]
    obtain rfl : l = [a] := by
      rcases l with _ | ⟨x, _ | ⟨y, l⟩⟩ <;> simp at hl e
      rw [e.1]
    exact value_1 a w h
  · rw [e, decL_two h] at hl
    rw [e, decL_two h u, ← decL_two h []]
    obtain rfl : l = [a, b] := by
      rcases l with _ | ⟨x, _ | ⟨y, _ | ⟨z, l⟩⟩⟩ <;> simp at hl e
      rw [e.1, e.2.1]
    exact value_2 a b w h
  · rw [e, decL_three h] at hl
    rw [e, decL_three h u, ← decL_three h []]
    obtain rfl : l = [a, b, c] := by
      rcases l with _ | ⟨x, _ | ⟨y, _ | ⟨z, _ | ⟨q, l⟩⟩⟩⟩ <;> simp at hl e
      rw [e.1, e.2.1, e.2.2.1]
    exact value_3 a b c w h
  · rw [e, decL_four h] at hl
    rw [e, decL_four h u, ← decL_four h []]
    obtain rfl : l = [a, b, c, d] := by
      rcases l with _ | ⟨x, _ | ⟨y, _ | ⟨z, _ | ⟨q, _ | ⟨p, l⟩⟩⟩⟩⟩ <;> simp at hl e
      rw [e.1, e.2.1, e.2.2.1, e.2.2.2.1]
    exact value_4 a b c d w h
end Go.Proofs.Ytgnmceefdbbhaaa
