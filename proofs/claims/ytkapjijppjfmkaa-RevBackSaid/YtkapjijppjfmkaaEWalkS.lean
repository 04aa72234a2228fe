/- What the law's Same answers of two zero revisions, what its made makes, rev.Tomb. No condition. -/
import Derived.Test.YtkapjijppjfmkaaEWalkR
import Derived.Test.YtkapjijppjfmkaaEWalkI
import Derived.Test.YtkapjijppjfmkaaEGenX
namespace Go.Proofs.Ytkapjijppjfmkaa
open Go.RowKit Go.Op
set_option maxRecDepth 100000

set_option maxHeartbeats 4000000 in
theorem same_zero (ka va ga ta : Option Addr) (kc vc gc tc : Nat) (w : World) :
    Calls Try.prog 14 #[.agg #[.int .i64 0, .int .i64 0, .string ⟨#[]⟩, .string ⟨#[]⟩, .bool false, .bool false, .slice ka 0 kc, .slice va 0 vc, .slice ga 0 gc, .slice ta 0 tc], .agg #[.int .i64 0, .int .i64 0, .string ⟨#[]⟩, .string ⟨#[]⟩, .bool false, .bool false, .slice none 0 0]] w fun e w' => e = .returned (.int .i64 1) ∧ Below w.heap.size w w' := by
  have HB0 := Lib.hid (((Below.refl w.heap.size w).alloc (Nat.le_refl _) (.cells #[.int .i64 0, .int .i64 0, .string ⟨#[]⟩, .string ⟨#[]⟩, .bool false, .bool false, .slice ka 0 kc, .slice va 0 vc, .slice ga 0 gc, .slice ta 0 tc] 33)).alloc (by simp) (.cells #[.int .i64 0, .int .i64 0, .string ⟨#[]⟩, .string ⟨#[]⟩, .bool false, .bool false, .slice none 0 0] 41))
  have HS0 : Hid (((w.alloc (.cells #[.int .i64 0, .int .i64 0, .string ⟨#[]⟩, .string ⟨#[]⟩, .bool false, .bool false, .slice ka 0 kc, .slice va 0 vc, .slice ga 0 gc, .slice ta 0 tc] 33)).alloc (.cells #[.int .i64 0, .int .i64 0, .string ⟨#[]⟩, .string ⟨#[]⟩, .bool false, .bool false, .slice none 0 0] 41)).drew.rangeAt w.heap.size 0 [.int .i64 0, .int .i64 0, .string ⟨#[]⟩, .string ⟨#[]⟩, .bool false, .bool false, .slice ka 0 kc, .slice va 0 vc, .slice ga 0 gc, .slice ta 0 tc] ∧ ((w.alloc (.cells #[.int .i64 0, .int .i64 0, .string ⟨#[]⟩, .string ⟨#[]⟩, .bool false, .bool false, .slice ka 0 kc, .slice va 0 vc, .slice ga 0 gc, .slice ta 0 tc] 33)).alloc (.cells #[.int .i64 0, .int .i64 0, .string ⟨#[]⟩, .string ⟨#[]⟩, .bool false, .bool false, .slice none 0 0] 41)).drew.rangeAt (w.heap.size + 1) 0 [.int .i64 0, .int .i64 0, .string ⟨#[]⟩, .string ⟨#[]⟩, .bool false, .bool false, .slice none 0 0]) := Lib.hid ⟨by
    have := holds_range (holds_alloc w #[.int .i64 0, .int .i64 0, .string ⟨#[]⟩, .string ⟨#[]⟩, .bool false, .bool false, .slice ka 0 kc, .slice va 0 vc, .slice ga 0 gc, .slice ta 0 tc] 33 w.heap.size [.int .i64 0, .int .i64 0, .string ⟨#[]⟩, .string ⟨#[]⟩, .bool false, .bool false, .slice ka 0 kc, .slice va 0 vc, .slice ga 0 gc, .slice ta 0 tc] rfl rfl)
    exact range_below this (drew_below ((Below.refl _ _).alloc (Nat.le_refl _) _)) (by simp), by
    exact range_below (holds_range (holds_alloc (w.alloc (.cells #[.int .i64 0, .int .i64 0, .string ⟨#[]⟩, .string ⟨#[]⟩, .bool false, .bool false, .slice ka 0 kc, .slice va 0 vc, .slice ga 0 gc, .slice ta 0 tc] 33)) #[.int .i64 0, .int .i64 0, .string ⟨#[]⟩, .string ⟨#[]⟩, .bool false, .bool false, .slice none 0 0] 41 (w.heap.size + 1) [.int .i64 0, .int .i64 0, .string ⟨#[]⟩, .string ⟨#[]⟩, .bool false, .bool false, .slice none 0 0] (by simp) rfl)) (drew_below (Below.refl (w.heap.size + 2) _)) (by omega)⟩
  go_enter Try.func14, Try.ntmps14
  go_wp2_with fail
  refine Free.region_puts (S := fun w' => w'.rangeAt (w.heap.size) 0 [.int .i64 0, .int .i64 0, .string ⟨#[]⟩, .string ⟨#[]⟩, .bool false, .bool false, .slice ka 0 kc, .slice va 0 vc, .slice ga 0 gc, .slice ta 0 tc] ∧ w'.rangeAt (w.heap.size + 1) 0 [.int .i64 0, .int .i64 0, .string ⟨#[]⟩, .string ⟨#[]⟩, .bool false, .bool false, .slice none 0 0]) (B0 := w.heap.size + 2) (w0 := _) (om := fun _ => 0) (olds := [])
    (tab := [(1, .load 3 ⟨w.heap.size, 0, none⟩ (.int .i64 0)),
      (3, .load 3 ⟨w.heap.size + 1, 0, none⟩ (.int .i64 0)),
      (4, .cmp .neq 3 (.int .i64 0) (.int .i64 0) (.bool false)),
      (7, .load 3 ⟨w.heap.size, 1, none⟩ (.int .i64 0)),
      (9, .load 3 ⟨w.heap.size + 1, 1, none⟩ (.int .i64 0)),
      (10, .cmp .neq 3 (.int .i64 0) (.int .i64 0) (.bool false)),
      (14, .load 28 ⟨w.heap.size, 2, none⟩ ((Sp.mk ⟨#[]⟩ ⟨#[]⟩ false).v)),
      (15, .call 33 [(Sp.mk ⟨#[]⟩ ⟨#[]⟩ false).v] ((Sp.mk ⟨#[]⟩ ⟨#[]⟩ false).v)),
      (17, .load 23 ⟨w.heap.size + 1, 2, none⟩ ((Sp.mk ⟨#[]⟩ ⟨#[]⟩ false).v)),
      (18, .cmp .neq 23 ((Sp.mk ⟨#[]⟩ ⟨#[]⟩ false).v) ((Sp.mk ⟨#[]⟩ ⟨#[]⟩ false).v) (.bool false)),
      (22, .load 4 ⟨w.heap.size, 5, none⟩ (.bool false)),
      (24, .load 4 ⟨w.heap.size + 1, 5, none⟩ (.bool false)),
      (25, .cmp .neq 4 (.bool false) (.bool false) (.bool false)),
      (29, .load 29 ⟨w.heap.size, 6, none⟩ (.slice ka 0 kc)),
      (30, .gen [.slice ka 0 kc] (.int .i64 ((0 : Nat) : Int))),
      (32, .load 24 ⟨w.heap.size + 1, 6, none⟩ (.slice none 0 0)),
      (33, .gen [.slice none 0 0] (.int .i64 ((0 : Nat) : Int))),
      (34, .cmp .neq 3 (.int .i64 ((0 : Nat) : Int)) (.int .i64 ((0 : Nat) : Int)) (.bool false)),
      (38, .load 29 ⟨w.heap.size, 7, none⟩ (.slice va 0 vc)),
      (39, .gen [.slice va 0 vc] (.int .i64 ((0 : Nat) : Int))),
      (41, .load 24 ⟨w.heap.size + 1, 6, none⟩ (.slice none 0 0)),
      (42, .gen [.slice none 0 0] (.int .i64 ((0 : Nat) : Int))),
      (43, .cmp .neq 3 (.int .i64 ((0 : Nat) : Int)) (.int .i64 ((0 : Nat) : Int)) (.bool false)),
      (47, .load 30 ⟨w.heap.size, 8, none⟩ (.slice ga 0 gc)),
      (48, .gen [.slice ga 0 gc] (.int .i64 ((0 : Nat) : Int))),
      (50, .load 24 ⟨w.heap.size + 1, 6, none⟩ (.slice none 0 0)),
      (51, .gen [.slice none 0 0] (.int .i64 ((0 : Nat) : Int))),
      (52, .cmp .neq 3 (.int .i64 ((0 : Nat) : Int)) (.int .i64 ((0 : Nat) : Int)) (.bool false))])
    (by kernel_rfl) ⟨by kernel_rfl, ⟨fun _ h => load_3 (h.1 0 _ rfl), fun _ h => load_3 (h.2 0 _ rfl), fun xo yo w => cmp_neq3 xo yo w (by simp), fun _ h => load_3 (h.1 1 _ rfl), fun _ h => load_3 (h.2 1 _ rfl), fun xo yo w => cmp_neq3 xo yo w (by simp), fun _ h => load_28 (s := Sp.mk ⟨#[]⟩ ⟨#[]⟩ false) ⟨h.1 2 _ rfl, h.1 3 _ rfl, h.1 4 _ rfl⟩, ⟨enter_33, fun w _ => plain_any _ w⟩, fun _ h => load_23 (s := Sp.mk ⟨#[]⟩ ⟨#[]⟩ false) ⟨h.2 2 _ rfl, h.2 3 _ rfl, h.2 4 _ rfl⟩, fun xo yo w => cmp_neq23 xo yo w (Sp.mk ⟨#[]⟩ ⟨#[]⟩ false), fun _ h => load_4 (h.1 5 _ rfl), fun _ h => load_4 (h.2 5 _ rfl), fun xo yo w => cmp_neq4 xo yo w rfl, fun _ h => load_29 (h.1 6 _ rfl), gen_len _ rfl rfl (len_29 _ _ _), fun _ h => load_24 (h.2 6 _ rfl), gen_len _ rfl rfl (len_24 _ _ _), fun xo yo w => cmp_neq3 xo yo w (by simp), fun _ h => load_29 (h.1 7 _ rfl), gen_len _ rfl rfl (len_29 _ _ _), fun _ h => load_24 (h.2 6 _ rfl), gen_len _ rfl rfl (len_24 _ _ _), fun xo yo w => cmp_neq3 xo yo w (by simp), fun _ h => load_30 (h.1 8 _ rfl), gen_len _ rfl rfl (len_30 _ _ _), fun _ h => load_24 (h.2 6 _ rfl), gen_len _ rfl rfl (len_24 _ _ _), fun xo yo w => cmp_neq3 xo yo w (by simp), trivial⟩,
      fun β => by kernel_rfl, fun β => by kernel_rfl, fun β => by kernel_rfl, by kernel_rfl, (fun w1 w2 h hb => ⟨range_below h.1 hb (by omega), range_below h.2 hb (by omega)⟩), by rw [drew_size]; simp, fun _ _ h => (by cases h), fun _ _ _ _ h => (by cases h)⟩
    HS0.out rfl (fun _ _ h => (by cases h)) (fun _ => Free.from_ 7 [.pointer (some ⟨w.heap.size, 0, none⟩), .int .i64 0, .pointer (some ⟨w.heap.size + 1, 0, none⟩), .int .i64 0, .bool false, .bool false, .pointer (some ⟨w.heap.size, 1, none⟩), .int .i64 0, .pointer (some ⟨w.heap.size + 1, 1, none⟩), .int .i64 0, .bool false, .bool false, .bool false, .pointer (some ⟨w.heap.size, 2, none⟩), (Sp.mk ⟨#[]⟩ ⟨#[]⟩ false).v, (Sp.mk ⟨#[]⟩ ⟨#[]⟩ false).v, .pointer (some ⟨w.heap.size + 1, 2, none⟩), (Sp.mk ⟨#[]⟩ ⟨#[]⟩ false).v, .bool false, .bool false, .bool false, .pointer (some ⟨w.heap.size, 5, none⟩), .bool false, .pointer (some ⟨w.heap.size + 1, 5, none⟩), .bool false, .bool false, .bool false, .bool false, .pointer (some ⟨w.heap.size, 6, none⟩), .slice ka 0 kc, .int .i64 ((0 : Nat) : Int), .pointer (some ⟨w.heap.size + 1, 6, none⟩), .slice none 0 0, .int .i64 ((0 : Nat) : Int), .bool false, .bool false, .bool false, .pointer (some ⟨w.heap.size, 7, none⟩), .slice va 0 vc, .int .i64 ((0 : Nat) : Int), .pointer (some ⟨w.heap.size + 1, 6, none⟩), .slice none 0 0, .int .i64 ((0 : Nat) : Int), .bool false, .bool false, .bool false, .pointer (some ⟨w.heap.size, 8, none⟩), .slice ga 0 gc, .int .i64 ((0 : Nat) : Int), .pointer (some ⟨w.heap.size + 1, 6, none⟩), .slice none 0 0, .int .i64 ((0 : Nat) : Int), .bool false, .bool false]) (fun β => by kernel_rfl) ?_
  intro β w2 hS2 hz2 b2 _ _ _
  rw [drew_size] at hz2
  simp at hz2
  have f6 : w2.cell? ⟨w.heap.size + 1, 6, none⟩ = some (.slice none 0 0) := hS2.2 6 _ rfl
  have f9 : w2.cell? ⟨w.heap.size, 9, none⟩ = some (.slice ta 0 tc) := hS2.1 9 _ rfl
  have f5 : w2.cell? ⟨w.heap.size + 1, 5, none⟩ = some (.bool false) := hS2.2 5 _ rfl
  have f0 : w2.cell? ⟨w.heap.size + 1, 0, none⟩ = some (.int .i64 0) := hS2.2 0 _ rfl
  have f1 : w2.cell? ⟨w.heap.size + 1, 1, none⟩ = some (.int .i64 0) := hS2.2 1 _ rfl
  have f2 : w2.cell? ⟨w.heap.size + 1, 2, none⟩ = some (.string ⟨#[]⟩) := hS2.2 2 _ rfl
  have f3 : w2.cell? ⟨w.heap.size + 1, 3, none⟩ = some (.string ⟨#[]⟩) := hS2.2 3 _ rfl
  have f4 : w2.cell? ⟨w.heap.size + 1, 4, none⟩ = some (.bool false) := hS2.2 4 _ rfl
  have HB2 := Lib.hid ((drew_below HB0.out).trans (b2.mono (by omega)))
  clear b2 hS2
  rw [Free.puts_from _ _ _ (Nat.le_of_ble_eq_true rfl)]
  simp only [List.take_succ_cons, List.take_zero, List.drop_succ_cons, List.drop_zero, List.cons_append, List.nil_append, List.length_cons, List.length_nil, Nat.reduceAdd]
  go_wp2
  go_loop [5, 6] (fun ov iv => ov = .slice none 0 0 ∧ iv = .int .i64 0) (fun _ _ => 0)
  case atStart => exact ⟨rfl, rfl⟩
  case round =>
    obtain ⟨rfl, rfl⟩ := hrel
    go_wp2
    go_ret
    exact ⟨rfl, HB2.out⟩
theorem same_none (s : Rs) (w : World) : Calls Try.prog 14 #[Rm.none.v s, (Fm.mk 0 0 zero false []).v none 0] w fun e w' => e = .returned (.int .i64 1) ∧ Below w.heap.size w w' := same_zero s.ka s.va s.ga s.ta s.kc s.vc s.gc s.tc w
end Go.Proofs.Ytkapjijppjfmkaa
