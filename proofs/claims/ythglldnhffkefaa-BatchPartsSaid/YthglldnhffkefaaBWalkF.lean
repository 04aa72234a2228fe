/- What Within of both, and from, answer of any entries. Conditions: at most 1000000 entries; texts of at most 1000000 bytes for the reference. -/
import Derived.Test.YthglldnhffkefaaBWalkE
namespace Go.Proofs.Ythglldnhffkefaa
open Go.RowKit Go.Op
set_option maxRecDepth 100000

theorem len_25 (a : Option Addr) (n c : Nat) (ty : TypeId) (w : World) : (Builtin.len_ #[25] ty #[.slice a n c]).run Try.prog w = .ok (.int .i64 (n : Int)) w := by
  go_simp
theorem len_22 (a : Option Addr) (n c : Nat) (ty : TypeId) (w : World) : (Builtin.len_ #[22] ty #[.slice a n c]).run Try.prog w = .ok (.int .i64 (n : Int)) w := by
  go_simp
/-- A span in memory. -/
def At (p o : Nat) (s : Sp) (w : World) : Prop := w.cell? ⟨p, o, none⟩ = some (.string s.lo) ∧ w.cell? ⟨p, o + 1, none⟩ = some (.string s.hi) ∧ w.cell? ⟨p, o + 2, none⟩ = some (.bool s.all)
theorem At.keep {p o : Nat} {s : Sp} {w1 w2 : World} (h : At p o s w1) {B : Nat} (hb : Below B w1 w2) (hp : p < B) : At p o s w2 :=
  ⟨by rw [hb.cell (p := ⟨p, o, none⟩) hp]; exact h.1, by rw [hb.cell (p := ⟨p, o + 1, none⟩) hp]; exact h.2.1, by rw [hb.cell (p := ⟨p, o + 2, none⟩) hp]; exact h.2.2⟩
theorem at_span {p o : Nat} {s : Sp} {w : World} (h : At p o s w) : w.rangeAt p o [.string s.lo, .string s.hi, .bool s.all] := fun j v hj => by
  match j, hj with
  | 0, hj => cases hj; exact h.1
  | 1, hj => cases hj; exact h.2.1
  | 2, hj => cases hj; exact h.2.2
theorem size44 : (Try.prog.info? 44).map (·.size) = some 3 := by kernel_rfl
theorem size40 : (Try.prog.info? 40).map (·.size) = some 3 := by kernel_rfl
theorem load_44 {p o : Nat} {s : Sp} {w : World} (h : At p o s w) : (Instr.loadAt 44 (.pointer (some ⟨p, o, none⟩))).run Try.prog w = .ok s.v w :=
  run_loadAt_mid w p o 44 _ _ (at_span h) Try.underlying44 rfl size44
theorem load_40 {p o : Nat} {s : Sp} {w : World} (h : At p o s w) : (Instr.loadAt 40 (.pointer (some ⟨p, o, none⟩))).run Try.prog w = .ok s.v w :=
  run_loadAt_mid w p o 40 _ _ (at_span h) Try.underlying40 rfl size40
theorem enter_31 (xs : Array Value) (w : World) : (callFunc 31 xs).run Try.prog w = .ok (.enter 31 xs) w := by kernel_rfl
theorem enter_32 (xs : Array Value) (w : World) : (callFunc 32 xs).run Try.prog w = .ok (.enter 32 xs) w := by kernel_rfl
def Stay (w : World) (s : Sp) (W : World) : Prop := At w.heap.size 0 s W ∧ Below w.heap.size w W ∧ w.heap.size < W.heap.size
theorem stay_drew {w W : World} {s : Sp} (h : Stay w s W) : Stay w s W.drew := ⟨h.1, drew_below h.2.1, h.2.2⟩
theorem stay_on {w W W' : World} {s : Sp} (h : Stay w s W) (hb : Below W.heap.size W W') : Stay w s W' := ⟨h.1.keep hb h.2.2, h.2.1.trans (hb.mono h.2.1.size), Nat.lt_of_lt_of_le h.2.2 hb.size⟩
theorem has_keep {w W : World} {s : Sp} {k : ByteArray} {r : Bool} (hr : s.has k = r) (h : Stay w s W) : Calls Try.prog 31 #[s.v, .string k] W fun e w' => e = .returned (.bool r) ∧ Stay w s w' :=
  (has_any s k W).mono fun _ _ h2 => ⟨by rw [h2.1, hr], stay_on h h2.2⟩
theorem refhas_keep {w W : World} {s : Sp} {k : ByteArray} {r : Bool} (hr : s.has k = r) (h1 : s.lo.size ≤ 1000000) (h2 : s.hi.size ≤ 1000000) (h3 : k.size ≤ 1000000) (h : Stay w s W) : Calls Try.prog 32 #[s.v, .string k] W fun e w' => e = .returned (.bool r) ∧ Stay w s w' :=
  (refhas_any s k h1 h2 h3 W).mono fun _ _ h2 => ⟨by rw [h2.1, hr], stay_on h h2.2⟩

/-- How many of the first ones lie in a span. -/
def wN (l : List En) (s : Sp) : Nat := l.findIdx fun e => !s.has e.key
def withinL (l : List En) (s : Sp) : List En := l.take (wN l s)
theorem wN_le (l : List En) (s : Sp) : wN l s ≤ l.length := List.findIdx_le_length
theorem within_length (l : List En) (s : Sp) : (withinL l s).length = wN l s := by unfold withinL; rw [List.length_take]; have := wN_le l s; omega
theorem within_step {l : List En} {s : Sp} {i : Nat} (h : i ≤ wN l s) (hi : i < l.length) : (s.has l[i].key = true ∧ i + 1 ≤ wN l s) ∨ (s.has l[i].key = false ∧ wN l s = i) := by
  rcases Nat.lt_or_ge i (wN l s) with h1 | h1
  · exact .inl ⟨by simpa using List.not_of_lt_findIdx h1, h1⟩
  · have e : wN l s = i := by omega
    have h3 : wN l s < l.length := by omega
    have h2 : (!s.has l[wN l s].key) = true := List.findIdx_getElem (w := h3)
    have h4 : s.has l[i].key = false := by
      have : l[wN l s] = l[i] := by congr 1
      rw [← this]
      simpa using h2
    exact .inr ⟨h4, e⟩
def fromN (l : List En) (lo : ByteArray) : Nat := l.findIdx fun e => !lt e.key lo
def fromL (l : List En) (lo : ByteArray) : List En := l.drop (fromN l lo)
theorem fromN_le (l : List En) (lo : ByteArray) : fromN l lo ≤ l.length := List.findIdx_le_length
theorem from_step {l : List En} {lo : ByteArray} {i : Nat} (h : i ≤ fromN l lo) (hi : i < l.length) : (lt l[i].key lo = true ∧ i + 1 ≤ fromN l lo) ∨ (lt l[i].key lo = false ∧ fromN l lo = i) := by
  rcases Nat.lt_or_ge i (fromN l lo) with h1 | h1
  · exact .inl ⟨by simpa using List.not_of_lt_findIdx h1, h1⟩
  · have e : fromN l lo = i := by omega
    have h3 : fromN l lo < l.length := by omega
    have h2 : (!lt l[fromN l lo].key lo) = true := List.findIdx_getElem (w := h3)
    have h4 : lt l[i].key lo = false := by
      have : l[fromN l lo] = l[i] := by congr 1
      rw [← this]
      simpa using h2
    exact .inr ⟨h4, e⟩

set_option maxHeartbeats 1000000 in
theorem within_any (a : Option Addr) (l : List En) (c : Nat) (s : Sp) (w : World) (hl : l.length ≤ 1000000) (hC : Cut w a l c) :
    Calls Try.prog 19 #[.slice a l.length c, s.v] w fun e w' => ∃ v, e = .returned v ∧ OwnE 37 w' w.heap.size v (withinL l s) ∧ Below w.heap.size w w' := by
  have HC := Lib.hid hC
  have HS := Lib.hid (fun i (h : i ≤ wN l s) (hi : i < l.length) => within_step h hi)
  have hwl := wN_le l s
  have HW : Hid (withinL l s = l.take (wN l s)) := Lib.hid rfl
  have mixed : Try.prog.follows .mixedOrders = true := by kernel_rfl
  have HS0 : Hid (Stay w s (w.alloc (.cells #[.string s.lo, .string s.hi, .bool s.all] 44))) := Lib.hid ⟨⟨by simp, by simp, by simp⟩, (Below.refl _ _).alloc (Nat.le_refl _) _, by simp⟩
  have hsv : s.v = .agg #[.string s.lo, .string s.hi, .bool s.all] := rfl
  generalize wN l s = n0 at HS hwl HW
  generalize withinL l s = WL at HW
  clear hC
  rw [hsv]
  clear hsv
  go_enter Try.func19, Try.ntmps19
  go_wp2
  go_loopw [5] (fun iv wr => ∃ i : Nat, i ≤ n0 ∧ iv = .int .i64 (i : Int) ∧ Hid (Stay w s wr)) (fun iv _ => l.length - (intOf iv).toNat)
  case atStart => exact ⟨0, by omega, rfl, HS0⟩
  case round =>
    obtain ⟨i, hi, rfl, HST⟩ := hrel
    clear HS0
    by_cases h1 : i < l.length
    · have i1 : (i : Int) < (l.length : Int) := by omega
      obtain ⟨eb, eo, rfl, heb, hx⟩ := HC.out.e.at h1
      have hs := HS.out i hi h1
      generalize l[i] = e at hx hs
      rcases hs with ⟨hh, h3⟩ | ⟨hh, h3⟩
      · go_wp2_with fail
        refine FreeS.region_puts (S := fun _ W => At w.heap.size 0 s W ∧ Below w.heap.size w W ∧ w.heap.size < W.heap.size) (sts := [])
          (tab := [(2, [.slice (some ⟨eb, eo, none⟩) l.length c], .int .i64 (l.length : Int), .pure),
            (3, [.int .i64 (i : Int), .int .i64 (l.length : Int)], .bool true, .pure),
            (5, [.pointer (some ⟨w.heap.size, 0, none⟩)], s.v, .read),
            (8, [.slice (some ⟨eb, eo, none⟩) l.length c, .int .i64 (i : Int)], .pointer (some ⟨eb, eo + i * 3, none⟩), .pure),
            (10, [.pointer (some ⟨eb, eo + i * 3, none⟩)], .string e.key, .read),
            (11, [.func (.func 31) #[] #[], s.v, .string e.key], .bool true, .call 31 [s.v, .string e.key])])
          (by kernel_rfl) ⟨by kernel_rfl, ⟨FreeS.d_len _ rfl rfl (len_25 _ _ _),
            FreeS.d_bin _ rfl rfl (fun xo yo w => cmp_lss3 xo yo w (decide_eq_true (by omega))),
            FreeS.d_load _ rfl rfl (fun w h => load_44 h.1),
            FreeS.d_at _ rfl rfl (fun w => at_25o _ _ _ _ _ (by omega) w),
            FreeS.d_load _ rfl rfl (fun w h => load_9 (hx.below (h.2.1) heb).1),
            FreeS.d_call2 _ rfl rfl enter_31 (fun w h => has_keep hh h),
            trivial⟩,
            by kernel_rfl, by kernel_rfl, by kernel_rfl⟩ (stay_drew HST.out) (Free.from_ 6 [.int .i64 (i : Int), .slice (some ⟨eb, eo, none⟩) l.length c, .int .i64 (l.length : Int), .bool true, .bool true, s.v, .slice (some ⟨eb, eo, none⟩) l.length c, .int .i64 (i : Int), .pointer (some ⟨eb, eo + i * 3, none⟩), .pointer (some ⟨eb, eo + i * 3, none⟩), .string e.key, .bool true, .bool true]) (by kernel_rfl) ?_
        intro w4 h4
        rw [Free.puts_from _ _ _ (Nat.le_of_ble_eq_true rfl)]
        simp only [List.take_succ_cons, List.take_zero, List.drop_succ_cons, List.drop_zero, List.cons_append, List.nil_append, List.length_cons, List.length_nil, Nat.reduceAdd]
        have HB4 := Lib.hid h4
        clear h4 hx hh
        go_wp2
        go_roundw
        case rel => exact ⟨i + 1, h3, by go_num, HB4⟩
        case measure => simp [intOf]; omega
      · go_wp2_with fail
        refine FreeS.region_puts (S := fun _ W => At w.heap.size 0 s W ∧ Below w.heap.size w W ∧ w.heap.size < W.heap.size) (sts := [])
          (tab := [(2, [.slice (some ⟨eb, eo, none⟩) l.length c], .int .i64 (l.length : Int), .pure),
            (3, [.int .i64 (i : Int), .int .i64 (l.length : Int)], .bool true, .pure),
            (5, [.pointer (some ⟨w.heap.size, 0, none⟩)], s.v, .read),
            (8, [.slice (some ⟨eb, eo, none⟩) l.length c, .int .i64 (i : Int)], .pointer (some ⟨eb, eo + i * 3, none⟩), .pure),
            (10, [.pointer (some ⟨eb, eo + i * 3, none⟩)], .string e.key, .read),
            (11, [.func (.func 31) #[] #[], s.v, .string e.key], .bool false, .call 31 [s.v, .string e.key])])
          (by kernel_rfl) ⟨by kernel_rfl, ⟨FreeS.d_len _ rfl rfl (len_25 _ _ _),
            FreeS.d_bin _ rfl rfl (fun xo yo w => cmp_lss3 xo yo w (decide_eq_true (by omega))),
            FreeS.d_load _ rfl rfl (fun w h => load_44 h.1),
            FreeS.d_at _ rfl rfl (fun w => at_25o _ _ _ _ _ (by omega) w),
            FreeS.d_load _ rfl rfl (fun w h => load_9 (hx.below (h.2.1) heb).1),
            FreeS.d_call2 _ rfl rfl enter_31 (fun w h => has_keep hh h),
            trivial⟩,
            by kernel_rfl, by kernel_rfl, by kernel_rfl⟩ (stay_drew HST.out) (Free.from_ 6 [.int .i64 (i : Int), .slice (some ⟨eb, eo, none⟩) l.length c, .int .i64 (l.length : Int), .bool true, .bool true, s.v, .slice (some ⟨eb, eo, none⟩) l.length c, .int .i64 (i : Int), .pointer (some ⟨eb, eo + i * 3, none⟩), .pointer (some ⟨eb, eo + i * 3, none⟩), .string e.key, .bool false, .bool false]) (by kernel_rfl) ?_
        intro w4 h4
        rw [Free.puts_from _ _ _ (Nat.le_of_ble_eq_true rfl)]
        simp only [List.take_succ_cons, List.take_zero, List.drop_succ_cons, List.drop_zero, List.cons_append, List.nil_append, List.length_cons, List.length_nil, Nat.reduceAdd]
        have HB4 := Lib.hid h4
        have hsl := fun W => slice_hi (T := 25) (.inl rfl) (a := some ⟨eb, eo, none⟩) (n := l.length) (c := c) (k := i) (Nat.le_trans (Nat.le_of_lt h1) HC.out.len) HC.out.len HC.out.big HC.out.none HC.out.spot W
        have hfr := fresh_any (some ⟨eb, eo, none⟩) (l.take i) c w4 (by rw [List.length_take]; omega) ((HC.out.below HB4.out.2.1).take i).e (fun h => by cases h)
        rw [show (l.take i).length = i by rw [List.length_take]; omega] at hfr
        have HE : Hid (l.take i = WL) := Lib.hid (by rw [HW.out, h3])
        clear h4 hx hh h3
        go_wp2_with fail
        refine hfr.mono ?_
        rintro e w5 ⟨v, rfl, ho, _, b5⟩
        have HO : Hid (OwnE 37 w5 w.heap.size v WL) := Lib.hid (by rw [← HE.out]; exact OwnE.lower ho HB4.out.2.1.size)
        have HB5 := Lib.hid (HB4.out.2.1.trans (b5.mono HB4.out.2.1.size))
        clear ho b5 hfr hsl
        go_wp2
        go_ret
        exact ⟨_, rfl, HO.out, HB5.out⟩
    · obtain rfl : i = l.length := by omega
      have i1 : ¬ (l.length : Int) < (l.length : Int) := by omega
      go_wp2_with fail
      refine FreeS.region_puts (S := fun _ W => At w.heap.size 0 s W ∧ Below w.heap.size w W ∧ w.heap.size < W.heap.size) (sts := [])
        (tab := [(2, [.slice a l.length c], .int .i64 (l.length : Int), .pure),
          (3, [.int .i64 (l.length : Int), .int .i64 (l.length : Int)], .bool false, .pure)])
        (by kernel_rfl) ⟨by kernel_rfl, ⟨FreeS.d_len _ rfl rfl (len_25 _ _ _),
          FreeS.d_bin _ rfl rfl (fun xo yo w => cmp_lss3 xo yo w (decide_eq_false (by omega))),
          trivial⟩,
          by kernel_rfl, by kernel_rfl, by kernel_rfl⟩ (stay_drew HST.out) (Free.from_ 6 [.int .i64 (l.length : Int), .slice a l.length c, .int .i64 (l.length : Int), .bool false, .bool false, undef, undef, undef, undef, undef, undef, undef, .bool false]) (by kernel_rfl) ?_
      intro w4 h4
      rw [Free.puts_from _ _ _ (Nat.le_of_ble_eq_true rfl)]
      simp only [List.take_succ_cons, List.take_zero, List.drop_succ_cons, List.drop_zero, List.cons_append, List.nil_append, List.length_cons, List.length_nil, Nat.reduceAdd]
      have HB4 := Lib.hid h4
      have hsl := fun W => slice_hi (T := 25) (.inl rfl) (a := a) (n := l.length) (c := c) (k := l.length) HC.out.len HC.out.len HC.out.big HC.out.none HC.out.spot W
      have hfr := fresh_any a l c w4 hl (HC.out.below HB4.out.2.1).e HC.out.none
      have HE : Hid (l = WL) := Lib.hid (by rw [HW.out, List.take_of_length_le (by omega)])
      clear h4
      go_wp2_with fail
      refine hfr.mono ?_
      rintro e w5 ⟨v, rfl, ho, _, b5⟩
      have HO : Hid (OwnE 37 w5 w.heap.size v WL) := Lib.hid (by rw [← HE.out]; exact OwnE.lower ho HB4.out.2.1.size)
      have HB5 := Lib.hid (HB4.out.2.1.trans (b5.mono HB4.out.2.1.size))
      clear ho b5 hfr hsl
      go_wp2
      go_ret
      exact ⟨_, rfl, HO.out, HB5.out⟩

set_option maxHeartbeats 1000000 in
theorem refwithin_any (a : Option Addr) (l : List En) (c : Nat) (s : Sp) (w : World) (hl : l.length ≤ 1000000) (hk : ∀ e ∈ l, e.key.size ≤ 1000000) (h1 : s.lo.size ≤ 1000000) (h2 : s.hi.size ≤ 1000000) (hC : Cut w a l c) :
    Calls Try.prog 20 #[.slice a l.length c, s.v] w fun e w' => e = .returned (.slice a (wN l s) c) ∧ Below w.heap.size w w' := by
  have HC := Lib.hid hC
  have HKK := Lib.hid hk
  have HSZ := Lib.hid (And.intro h1 h2)
  have HS := Lib.hid (fun i (h : i ≤ wN l s) (hi : i < l.length) => within_step h hi)
  have hwl := wN_le l s
  have mixed : Try.prog.follows .mixedOrders = true := by kernel_rfl
  have HS0 : Hid (Stay w s (w.alloc (.cells #[.string s.lo, .string s.hi, .bool s.all] 40))) := Lib.hid ⟨⟨by simp, by simp, by simp⟩, (Below.refl _ _).alloc (Nat.le_refl _) _, by simp⟩
  have hsv : s.v = .agg #[.string s.lo, .string s.hi, .bool s.all] := rfl
  generalize wN l s = n0 at HS hwl
  clear hC hk h1 h2
  rw [hsv]
  clear hsv
  go_enter Try.func20, Try.ntmps20
  go_wp2
  go_loopw [5] (fun iv wr => ∃ i : Nat, i ≤ n0 ∧ iv = .int .i64 (i : Int) ∧ Hid (Stay w s wr)) (fun iv _ => l.length - (intOf iv).toNat)
  case atStart => exact ⟨0, by omega, rfl, HS0⟩
  case round =>
    obtain ⟨i, hi, rfl, HST⟩ := hrel
    clear HS0
    by_cases h1 : i < l.length
    · have i1 : (i : Int) < (l.length : Int) := by omega
      obtain ⟨eb, eo, rfl, heb, hx⟩ := HC.out.e.at h1
      have hs := HS.out i hi h1
      have HM := Lib.hid (List.getElem_mem h1)
      generalize l[i] = e at hx hs HM
      rcases hs with ⟨hh, h3⟩ | ⟨hh, h3⟩
      · go_wp2_with fail
        refine FreeS.region_puts (S := fun _ W => At w.heap.size 0 s W ∧ Below w.heap.size w W ∧ w.heap.size < W.heap.size) (sts := [])
          (tab := [(0, [.pointer (some ⟨w.heap.size, 0, none⟩)], s.v, .read),
            (3, [.slice (some ⟨eb, eo, none⟩) l.length c, .int .i64 (i : Int)], .pointer (some ⟨eb, eo + i * 3, none⟩), .pure),
            (5, [.pointer (some ⟨eb, eo + i * 3, none⟩)], .string e.key, .read),
            (6, [.func (.func 32) #[] #[], s.v, .string e.key], .bool true, .call 32 [s.v, .string e.key])])
          (by kernel_rfl) ⟨by kernel_rfl, ⟨FreeS.d_load _ rfl rfl (fun w h => load_40 h.1),
            FreeS.d_at _ rfl rfl (fun w => at_22 _ _ _ _ _ (by omega) w),
            FreeS.d_load _ rfl rfl (fun w h => load_9 (hx.below (h.2.1) heb).1),
            FreeS.d_call2 _ rfl rfl enter_32 (fun w h => refhas_keep hh HSZ.out.1 HSZ.out.2 (HKK.out e HM.out) h),
            trivial⟩,
            by kernel_rfl, by kernel_rfl, by kernel_rfl⟩ (stay_drew HST.out) (Free.from_ 12 [s.v, .slice (some ⟨eb, eo, none⟩) l.length c, .int .i64 (i : Int), .pointer (some ⟨eb, eo + i * 3, none⟩), .pointer (some ⟨eb, eo + i * 3, none⟩), .string e.key, .bool true, .bool false]) (by kernel_rfl) ?_
        intro w4 h4
        rw [Free.puts_from _ _ _ (Nat.le_of_ble_eq_true rfl)]
        simp only [List.take_succ_cons, List.take_zero, List.drop_succ_cons, List.drop_zero, List.cons_append, List.nil_append, List.length_cons, List.length_nil, Nat.reduceAdd]
        have HB4 := Lib.hid h4
        clear h4 hx hh
        go_wp2
        go_roundw
        case rel => exact ⟨i + 1, h3, by go_num, HB4⟩
        case measure => simp [intOf]; omega
      · go_wp2_with fail
        refine FreeS.region_puts (S := fun _ W => At w.heap.size 0 s W ∧ Below w.heap.size w W ∧ w.heap.size < W.heap.size) (sts := [])
          (tab := [(0, [.pointer (some ⟨w.heap.size, 0, none⟩)], s.v, .read),
            (3, [.slice (some ⟨eb, eo, none⟩) l.length c, .int .i64 (i : Int)], .pointer (some ⟨eb, eo + i * 3, none⟩), .pure),
            (5, [.pointer (some ⟨eb, eo + i * 3, none⟩)], .string e.key, .read),
            (6, [.func (.func 32) #[] #[], s.v, .string e.key], .bool false, .call 32 [s.v, .string e.key])])
          (by kernel_rfl) ⟨by kernel_rfl, ⟨FreeS.d_load _ rfl rfl (fun w h => load_40 h.1),
            FreeS.d_at _ rfl rfl (fun w => at_22 _ _ _ _ _ (by omega) w),
            FreeS.d_load _ rfl rfl (fun w h => load_9 (hx.below (h.2.1) heb).1),
            FreeS.d_call2 _ rfl rfl enter_32 (fun w h => refhas_keep hh HSZ.out.1 HSZ.out.2 (HKK.out e HM.out) h),
            trivial⟩,
            by kernel_rfl, by kernel_rfl, by kernel_rfl⟩ (stay_drew HST.out) (Free.from_ 12 [s.v, .slice (some ⟨eb, eo, none⟩) l.length c, .int .i64 (i : Int), .pointer (some ⟨eb, eo + i * 3, none⟩), .pointer (some ⟨eb, eo + i * 3, none⟩), .string e.key, .bool false, .bool true]) (by kernel_rfl) ?_
        intro w4 h4
        rw [Free.puts_from _ _ _ (Nat.le_of_ble_eq_true rfl)]
        simp only [List.take_succ_cons, List.take_zero, List.drop_succ_cons, List.drop_zero, List.cons_append, List.nil_append, List.length_cons, List.length_nil, Nat.reduceAdd]
        have HB4 := Lib.hid h4
        have hsl := fun W => slice_hi (T := 22) (.inr rfl) (a := some ⟨eb, eo, none⟩) (n := l.length) (c := c) (k := i) (Nat.le_trans (Nat.le_of_lt h1) HC.out.len) HC.out.len HC.out.big HC.out.none HC.out.spot W
        have HE := Lib.hid h3
        clear h4 hx hh h3
        go_wp2
        go_ret
        exact ⟨by rw [HE.out]; rfl, HB4.out.2.1⟩
    · obtain rfl : i = l.length := by omega
      have i1 : ¬ (l.length : Int) < (l.length : Int) := by omega
      have HE : Hid (n0 = l.length) := Lib.hid (by omega)
      go_wp2
      go_ret
      exact ⟨by rw [HE.out]; rfl, HST.out.2.1⟩

set_option maxHeartbeats 1000000 in
theorem from_any (a : Option Addr) (l : List En) (c : Nat) (lo : ByteArray) (w : World) (hC : Cut w a l c) :
    Calls Try.prog 30 #[.slice a l.length c, .string lo] w fun e w' => (∃ a' c', e = .returned (.slice a' (fromL l lo).length c') ∧ Cut w a' (fromL l lo) c' ∧ ∀ p, a' = some p → ∃ q, a = some q ∧ p.block = q.block) ∧ w = w' := by
  have HC := Lib.hid hC
  have HS := Lib.hid (fun i (h : i ≤ fromN l lo) (hi : i < l.length) => from_step h hi)
  have hwl := fromN_le l lo
  have HW : Hid (fromL l lo = l.drop (fromN l lo)) := Lib.hid rfl
  generalize fromN l lo = n0 at HS hwl HW
  generalize fromL l lo = FL at HW
  clear hC
  go_enter Try.func30, Try.ntmps30
  go_wp2
  go_loopw [0] (fun v wr => ∃ (d m : Nat) (a' : Option Addr) (c' : Nat), d ≤ n0 ∧ v = .slice a' m c' ∧ d + m = l.length ∧ Hid (Cut w a' (l.drop d) c') ∧ Hid (∀ p, a' = some p → ∃ q, a = some q ∧ p.block = q.block) ∧ Hid (w = wr)) (fun v _ => match v with | .slice _ n _ => n | _ => 0)
  case atStart => exact ⟨0, l.length, a, c, by omega, rfl, by omega, HC, Lib.hid (fun p hp => ⟨p, hp, rfl⟩), Lib.hid rfl⟩
  case round =>
    obtain ⟨d, m, a', c', hd, rfl, hdm, HD, HP, HWW⟩ := hrel
    obtain rfl := HWW.out
    by_cases h1 : d < l.length
    · have i1 : (0 : Int) < (m : Int) := by omega
      have hs := HS.out d hd h1
      have h0 : 0 < (l.drop d).length := by rw [List.length_drop]; omega
      obtain ⟨eb, eo, rfl, heb, hx⟩ := HD.out.e.at h0
      have he : (l.drop d)[0] = l[d] := by rw [List.getElem_drop]; rfl
      rw [he] at hx
      generalize l[d] = e at hx hs
      obtain ⟨x1, x2, x3⟩ := hx
      rw [Nat.zero_mul, Nat.add_zero] at x1
      have hcm : m ≤ c' := by have := HD.out.len; rw [List.length_drop] at this; omega
      rcases hs with ⟨hh, h3⟩ | ⟨hh, h3⟩
      · have hsl : ∀ W, (Instr.sliceAt 25 (.slice (some ⟨eb, eo, none⟩) m c') (some (.int .i64 1)) none none).run Try.prog W = .ok (.slice (dropA (some ⟨eb, eo, none⟩) c' 1) (m - 1) (c' - 1)) W := fun W => slice_lo (T := 25) (.inl rfl) (a := some ⟨eb, eo, none⟩) (n := m) (c := c') (k := 1) (by omega) hcm HD.out.big HD.out.none HD.out.spot W
        have HN : Hid (Cut w (dropA (some ⟨eb, eo, none⟩) c' 1) (l.drop (d + 1)) (c' - 1)) := Lib.hid (by have := HD.out.drop (k := 1) (by omega); rwa [List.drop_drop] at this)
        have HPN : Hid (∀ p, dropA (some ⟨eb, eo, none⟩) c' 1 = some p → ∃ q, a = some q ∧ p.block = q.block) := Lib.hid (fun p hp => by
          obtain ⟨q, hq, hqb⟩ := HP.out _ rfl
          refine ⟨q, hq, ?_⟩
          unfold dropA at hp
          simp only [Option.map_some, Option.some.injEq] at hp
          rw [← hp]
          split <;> exact hqb)
        unfold lt at hh
        clear x2 x3 he h0
        generalize dropA (some ⟨eb, eo, none⟩) c' 1 = an at hsl HN HPN
        go_wp2
        go_roundw
        case rel => exact ⟨d + 1, m - 1, an, c' - 1, h3, rfl, by omega, HN, HPN, Lib.hid (by trivial)⟩
        case measure => simp; omega
      · have HE : Hid (l.drop d = FL) := Lib.hid (by rw [HW.out, h3])
        have HM : Hid (m = FL.length) := Lib.hid (by rw [← HE.out, List.length_drop]; omega)
        unfold lt at hh
        clear x2 x3 he h0
        go_wp2
        go_ret
        exact ⟨⟨_, _, by rw [HM.out]; rfl, by rw [← HE.out]; exact HD.out, HP.out⟩, rfl⟩
    · obtain rfl : m = 0 := by omega
      have HE : Hid (l.drop d = FL) := Lib.hid (by rw [HW.out, List.drop_eq_nil_of_le (by omega), List.drop_eq_nil_of_le (by omega)])
      have HM : Hid (FL.length = 0) := Lib.hid (by rw [← HE.out, List.length_drop]; omega)
      go_wp2
      go_ret
      exact ⟨⟨_, _, by rw [HM.out]; rfl, by rw [← HE.out]; exact HD.out, HP.out⟩, rfl⟩
end Go.Proofs.Ythglldnhffkefaa
