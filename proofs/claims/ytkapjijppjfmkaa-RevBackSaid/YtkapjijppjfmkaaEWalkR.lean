/- What the law's Same answers of a revision and the reference's that are the same. Conditions: at most 500 entries, texts of at most 1000000 bytes, the table of the keys. -/
import Derived.Test.YtkapjijppjfmkaaEWalkJ
import Derived.Test.YtkapjijppjfmkaaEWalkF
import Derived.Test.YtkapjijppjfmkaaEWalkG
namespace Go.Proofs.Ytkapjijppjfmkaa
open Go.RowKit Go.Op
set_option maxRecDepth 100000

theorem enter_33 (xs : Array Value) (w : World) : (callFunc 33 xs).run Try.prog w = .ok (.enter 33 xs) w := by kernel_rfl
theorem range_below {w w' : World} {b o B : Nat} {cs : List Value} (h : w.rangeAt b o cs) (hb : Below B w w') (hB : b < B) : w'.rangeAt b o cs := fun j v hj => by
  rw [hb.cell (p := ⟨b, o + j, none⟩) hB]
  exact h j v hj
def strRow (l : List ByteArray) : List Value := l.map Value.string
def OwnS (w : World) (base : Nat) (v : Value) (l : List ByteArray) : Prop := w.ownsRow base 9 1 v l.length (strRow l)
theorem OwnS.alloc {w : World} {base : Nat} {v : Value} {l : List ByteArray} (h : OwnS w base v l) (o : Obj) : OwnS (w.alloc o) base v l := World.ownsRow.alloc h o
theorem OwnS.lt {w : World} {base : Nat} {v : Value} {l : List ByteArray} (h : OwnS w base v l) : ∀ k, v.ownBlock = some k → base ≤ k ∧ k < w.heap.size := World.ownsRow.lt h
theorem OwnS.below {w w' : World} {base : Nat} {v : Value} {l : List ByteArray} (h : OwnS w base v l) (hb : Below w.heap.size w w') : OwnS w' base v l := by
  obtain ⟨h1, h2⟩ := h
  refine ⟨h1, ?_⟩
  rcases h2 with h2 | ⟨g, cap, cur, rfl, b, c, d⟩
  · exact .inl h2
  · exact .inr ⟨g, cap, cur, rfl, b, by rw [hb.block g (heap_lt c)]; exact c, d⟩
theorem OwnS.keys {w : World} {base : Nat} {v : Value} {l : List ByteArray} (h : OwnS w base v l) : ∃ a c, v = .slice a l.length c ∧ Keys w a l := by
  obtain ⟨h1, h2⟩ := h
  rcases h2 with ⟨rfl, h2⟩ | ⟨g, cap, cur, rfl, b, c, d⟩
  · have : l = [] := List.eq_nil_of_length_eq_zero h2
    subst this
    exact ⟨none, 0, rfl, .inl rfl⟩
  · refine ⟨some ⟨g, 0, none⟩, cap, rfl, .inr ⟨g, 0, rfl, heap_lt c, fun k hk => ?_⟩⟩
    have hh : w.ownsRow base 9 1 (.slice (some ⟨g, 0, none⟩) l.length cap) l.length (strRow l) := ⟨h1, .inr ⟨g, cap, cur, rfl, b, c, d⟩⟩
    rw [hh.cellAt (0 + k) (by omega), Nat.zero_add]
    simp [strRow, hk]
theorem wpList_append_str {ops : Array Oper} {rest : List Oper} {o : Oper} {a : Act} {w : World} {Q : Exit → Act → World → Prop} (hg : o.guard = none) (s x : Operand)
    (hop : o.op = Op.call { callee := Callee.builtin Builtin.append, args := #[s, x], argTypes := #[29, 29] })
    (base : Nat) (v : Value) (l : List ByteArray) (k : ByteArray) (hs : a.eval s = v) (hown : OwnS w base v l)
    (ad : Addr) (c : Nat) (hx : a.eval x = .slice (some ad) 1 c) (hm : ∀ j u, (strRow [k])[j]? = some u → w.cell? (ad.add j) = some u)
    (hb : l.length + 1 ≤ 100000000) (hbase : base ≤ w.heap.size)
    (hK : ∀ v' w', OwnS w' base v' (l ++ [k]) → w.grownBy w' v.ownBlock → wpList Try.prog ops Q rest (a.put o.dst v') w') :
    wpList Try.prog ops Q (o :: rest) a w := by
  obtain ⟨i0, hi, hz0, hz1, hz2⟩ := info_parts info9
  refine wpList_append_own w hg s x 29 hop base 9 i0 _ 1 16 Try.underlying29 hi hz0 hz1 hz2 rfl (by decide) v _ _ hs hown ad 1 c (strRow [k]) hx rfl hm (by intro u hu; simp [strRow] at hu; subst hu; rfl) (by unfold maxLen; omega) (by omega) hbase ?_
  intro v' w' h1 h2 _
  refine hK v' w' ?_ h2
  unfold OwnS strRow
  rw [List.map_append, List.length_append]
  exact h1
theorem str_new (w : World) (k : ByteArray) (t : TypeId) : ∀ j u, (strRow [k])[j]? = some u → (w.alloc (.cells #[.string k] t)).cell? ((⟨w.heap.size, 0, none⟩ : Addr).add j) = some u := by
  intro j u hj
  match j, hj with
  | 0, hj => simp [strRow] at hj; subst hj; simp [Addr.add]
  | (j + 1), hj => simp [strRow] at hj
theorem below_str {B : Nat} {a w w' : World} {v : Value} {l : List ByteArray} (h : Below B a w) (hown : OwnS w B v l) (hg : w.grownBy w' v.ownBlock) (hB : B ≤ w.heap.size) : Below B a w' :=
  h.grown hg hB (fun k hk => (hown.lt k hk).1)
theorem nums_any (T : List Int) (a b : Option Addr) (c1 c2 : Nat) (w : World) (hl : T.length ≤ 1000000) (h1 : Nums w a T) (h2 : Nums w b T) :
    Calls Try.prog 34 #[.slice a T.length c1, .slice b T.length c2] w fun e w' => e = .returned (.int .i64 1) ∧ Below w.heap.size w w' := by
  have H1 := Lib.hid h1
  have H2 := Lib.hid h2
  clear h1 h2
  go_enter Try.func34, Try.ntmps34
  go_wp2
  go_loopw [5] (fun i wr => ∃ k : Nat, k ≤ T.length ∧ i = .int .i64 k ∧ Below w.heap.size w wr) (fun i _ => T.length - (intOf i).toNat)
  case atStart => exact ⟨0, by omega, rfl, Below.refl _ _⟩
  case round =>
    obtain ⟨k, hk, rfl, hb⟩ := hrel
    by_cases hp : k < T.length
    · have i1 : (k : Int) < (T.length : Int) := by omega
      obtain ⟨x, hx⟩ : ∃ x, x = T[k]'hp := ⟨_, rfl⟩
      obtain ⟨g1, o1, rfl, hg1, e1⟩ : ∃ g o, a = some ⟨g, o, none⟩ ∧ g < w.heap.size ∧ wr.cell? ⟨g, o + k, none⟩ = some (.int .i64 x) := by
        rcases H1.out with h | ⟨g, o, rfl, hlt, hc⟩
        · rw [h] at hp; simp at hp
        · exact ⟨g, o, rfl, hlt, by rw [hx]; exact keep hb (hc k hp) hlt⟩
      obtain ⟨g2, o2, rfl, hg2, e2⟩ : ∃ g o, b = some ⟨g, o, none⟩ ∧ g < w.heap.size ∧ wr.cell? ⟨g, o + k, none⟩ = some (.int .i64 x) := by
        rcases H2.out with h | ⟨g, o, rfl, hlt, hc⟩
        · rw [h] at hp; simp at hp
        · exact ⟨g, o, rfl, hlt, by rw [hx]; exact keep hb (hc k hp) hlt⟩
      clear hx
      go_wp2
      go_quiet (fail)
      go_wp2
      go_roundw
      case rel => exact ⟨k + 1, by omega, by go_num, below_drewN hb _⟩
      case measure => simp [intOf]; omega
    · have i1 : ¬ (k : Int) < (T.length : Int) := by omega
      go_wp2
      go_ret
      exact ⟨rfl, hb⟩

set_option maxHeartbeats 8000000 in
theorem same_any (ver rate : Int) (sp : Sp) (l : List En) (tab : List Int) (s : Rs) (ba : Option Addr) (bc : Nat) (w : World) (hl : l.length ≤ 500) (hk : ∀ e ∈ l, e.key.size ≤ 1000000)
    (hR : RevAt w ⟨ver, rate, sp, false, l, tab⟩ s) (hE : Ents w ba l) (hT : tab = build (l.map En.key)) :
    Calls Try.prog 14 #[(Rm.mk ver rate sp false l tab).v s, (Fm.mk ver rate sp false l).v ba bc] w fun e w' => e = .returned (.int .i64 1) ∧ Below w.heap.size w w' := by
  have hT0 : tab.length ≠ 0 := by rw [hT, build_length]; have := sz_two (l.map En.key).length; omega
  have hTm : tab.length ≤ 1000000 := by rw [hT]; exact build_less (by rw [List.length_map]; omega)
  obtain ⟨h1, h2, h3, h4⟩ := hR
  obtain ⟨lo, hi, all⟩ := sp
  obtain ⟨ka, kc, va, vc, ga, gc, ta, tc⟩ := s
  simp only [Rm.v, Fm.v] at h1 h2 h3 h4 ⊢
  have HK := Lib.hid h1
  have HV := Lib.hid h2
  have HG := Lib.hid h3
  have HTb := Lib.hid h4
  have HE := Lib.hid hE
  have HKs := Lib.hid hk
  have HT := Lib.hid hT
  have HB0 := Lib.hid (((Below.refl w.heap.size w).alloc (Nat.le_refl _) (.cells #[.int .i64 ver, .int .i64 rate, .string lo, .string hi, .bool all, .bool false, .slice ka l.length kc, .slice va l.length vc, .slice ga l.length gc, .slice ta tab.length tc] 33)).alloc (by simp) (.cells #[.int .i64 ver, .int .i64 rate, .string lo, .string hi, .bool all, .bool false, .slice ba l.length bc] 41))
  have HS0 : Hid (((w.alloc (.cells #[.int .i64 ver, .int .i64 rate, .string lo, .string hi, .bool all, .bool false, .slice ka l.length kc, .slice va l.length vc, .slice ga l.length gc, .slice ta tab.length tc] 33)).alloc (.cells #[.int .i64 ver, .int .i64 rate, .string lo, .string hi, .bool all, .bool false, .slice ba l.length bc] 41)).drew.rangeAt w.heap.size 0 [.int .i64 ver, .int .i64 rate, .string lo, .string hi, .bool all, .bool false, .slice ka l.length kc, .slice va l.length vc, .slice ga l.length gc, .slice ta tab.length tc] ∧ ((w.alloc (.cells #[.int .i64 ver, .int .i64 rate, .string lo, .string hi, .bool all, .bool false, .slice ka l.length kc, .slice va l.length vc, .slice ga l.length gc, .slice ta tab.length tc] 33)).alloc (.cells #[.int .i64 ver, .int .i64 rate, .string lo, .string hi, .bool all, .bool false, .slice ba l.length bc] 41)).drew.rangeAt (w.heap.size + 1) 0 [.int .i64 ver, .int .i64 rate, .string lo, .string hi, .bool all, .bool false, .slice ba l.length bc]) := Lib.hid ⟨by
    have := holds_range (holds_alloc w #[.int .i64 ver, .int .i64 rate, .string lo, .string hi, .bool all, .bool false, .slice ka l.length kc, .slice va l.length vc, .slice ga l.length gc, .slice ta tab.length tc] 33 w.heap.size [.int .i64 ver, .int .i64 rate, .string lo, .string hi, .bool all, .bool false, .slice ka l.length kc, .slice va l.length vc, .slice ga l.length gc, .slice ta tab.length tc] rfl rfl)
    exact range_below this (drew_below ((Below.refl _ _).alloc (Nat.le_refl _) _)) (by simp), by
    exact range_below (holds_range (holds_alloc (w.alloc (.cells #[.int .i64 ver, .int .i64 rate, .string lo, .string hi, .bool all, .bool false, .slice ka l.length kc, .slice va l.length vc, .slice ga l.length gc, .slice ta tab.length tc] 33)) #[.int .i64 ver, .int .i64 rate, .string lo, .string hi, .bool all, .bool false, .slice ba l.length bc] 41 (w.heap.size + 1) [.int .i64 ver, .int .i64 rate, .string lo, .string hi, .bool all, .bool false, .slice ba l.length bc] (by simp) rfl)) (drew_below (Below.refl (w.heap.size + 2) _)) (by omega)⟩
  have hne0 : ((tab.length : Int) == 0) = false := by rw [beq_eq_false_iff_ne]; omega
  clear h1 h2 h3 h4 hE hk hT hT0
  go_enter Try.func14, Try.ntmps14
  go_wp2_with fail
  refine Free.region_puts (S := fun w' => w'.rangeAt (w.heap.size) 0 [.int .i64 ver, .int .i64 rate, .string lo, .string hi, .bool all, .bool false, .slice ka l.length kc, .slice va l.length vc, .slice ga l.length gc, .slice ta tab.length tc] ∧ w'.rangeAt (w.heap.size + 1) 0 [.int .i64 ver, .int .i64 rate, .string lo, .string hi, .bool all, .bool false, .slice ba l.length bc]) (B0 := w.heap.size + 2) (w0 := _) (om := fun _ => 0) (olds := [])
    (tab := [(1, .load 3 ⟨w.heap.size, 0, none⟩ (.int .i64 ver)),
      (3, .load 3 ⟨w.heap.size + 1, 0, none⟩ (.int .i64 ver)),
      (4, .cmp .neq 3 (.int .i64 ver) (.int .i64 ver) (.bool false)),
      (7, .load 3 ⟨w.heap.size, 1, none⟩ (.int .i64 rate)),
      (9, .load 3 ⟨w.heap.size + 1, 1, none⟩ (.int .i64 rate)),
      (10, .cmp .neq 3 (.int .i64 rate) (.int .i64 rate) (.bool false)),
      (14, .load 28 ⟨w.heap.size, 2, none⟩ ((Sp.mk lo hi all).v)),
      (15, .call 33 [(Sp.mk lo hi all).v] ((Sp.mk lo hi all).v)),
      (17, .load 23 ⟨w.heap.size + 1, 2, none⟩ ((Sp.mk lo hi all).v)),
      (18, .cmp .neq 23 ((Sp.mk lo hi all).v) ((Sp.mk lo hi all).v) (.bool false)),
      (22, .load 4 ⟨w.heap.size, 5, none⟩ (.bool false)),
      (24, .load 4 ⟨w.heap.size + 1, 5, none⟩ (.bool false)),
      (25, .cmp .neq 4 (.bool false) (.bool false) (.bool false)),
      (29, .load 29 ⟨w.heap.size, 6, none⟩ (.slice ka l.length kc)),
      (30, .gen [.slice ka l.length kc] (.int .i64 (l.length : Int))),
      (32, .load 24 ⟨w.heap.size + 1, 6, none⟩ (.slice ba l.length bc)),
      (33, .gen [.slice ba l.length bc] (.int .i64 (l.length : Int))),
      (34, .cmp .neq 3 (.int .i64 (l.length : Int)) (.int .i64 (l.length : Int)) (.bool false)),
      (38, .load 29 ⟨w.heap.size, 7, none⟩ (.slice va l.length vc)),
      (39, .gen [.slice va l.length vc] (.int .i64 (l.length : Int))),
      (41, .load 24 ⟨w.heap.size + 1, 6, none⟩ (.slice ba l.length bc)),
      (42, .gen [.slice ba l.length bc] (.int .i64 (l.length : Int))),
      (43, .cmp .neq 3 (.int .i64 (l.length : Int)) (.int .i64 (l.length : Int)) (.bool false)),
      (47, .load 30 ⟨w.heap.size, 8, none⟩ (.slice ga l.length gc)),
      (48, .gen [.slice ga l.length gc] (.int .i64 (l.length : Int))),
      (50, .load 24 ⟨w.heap.size + 1, 6, none⟩ (.slice ba l.length bc)),
      (51, .gen [.slice ba l.length bc] (.int .i64 (l.length : Int))),
      (52, .cmp .neq 3 (.int .i64 (l.length : Int)) (.int .i64 (l.length : Int)) (.bool false))])
    (by kernel_rfl) ⟨by kernel_rfl, ⟨fun _ h => load_3 (h.1 0 _ rfl), fun _ h => load_3 (h.2 0 _ rfl), fun xo yo w => cmp_neq3 xo yo w (by simp), fun _ h => load_3 (h.1 1 _ rfl), fun _ h => load_3 (h.2 1 _ rfl), fun xo yo w => cmp_neq3 xo yo w (by simp), fun _ h => load_28 (s := Sp.mk lo hi all) ⟨h.1 2 _ rfl, h.1 3 _ rfl, h.1 4 _ rfl⟩, ⟨enter_33, fun w _ => plain_any _ w⟩, fun _ h => load_23 (s := Sp.mk lo hi all) ⟨h.2 2 _ rfl, h.2 3 _ rfl, h.2 4 _ rfl⟩, fun xo yo w => cmp_neq23 xo yo w (Sp.mk lo hi all), fun _ h => load_4 (h.1 5 _ rfl), fun _ h => load_4 (h.2 5 _ rfl), fun xo yo w => cmp_neq4 xo yo w rfl, fun _ h => load_29 (h.1 6 _ rfl), gen_len _ rfl rfl (len_29 _ _ _), fun _ h => load_24 (h.2 6 _ rfl), gen_len _ rfl rfl (len_24 _ _ _), fun xo yo w => cmp_neq3 xo yo w (by simp), fun _ h => load_29 (h.1 7 _ rfl), gen_len _ rfl rfl (len_29 _ _ _), fun _ h => load_24 (h.2 6 _ rfl), gen_len _ rfl rfl (len_24 _ _ _), fun xo yo w => cmp_neq3 xo yo w (by simp), fun _ h => load_30 (h.1 8 _ rfl), gen_len _ rfl rfl (len_30 _ _ _), fun _ h => load_24 (h.2 6 _ rfl), gen_len _ rfl rfl (len_24 _ _ _), fun xo yo w => cmp_neq3 xo yo w (by simp), trivial⟩,
      fun β => by kernel_rfl, fun β => by kernel_rfl, fun β => by kernel_rfl, by kernel_rfl, (fun w1 w2 h hb => ⟨range_below h.1 hb (by omega), range_below h.2 hb (by omega)⟩), by rw [drew_size]; simp, fun _ _ h => (by cases h), fun _ _ _ _ h => (by cases h)⟩
    HS0.out rfl (fun _ _ h => (by cases h)) (fun _ => Free.from_ 7 [.pointer (some ⟨w.heap.size, 0, none⟩), .int .i64 ver, .pointer (some ⟨w.heap.size + 1, 0, none⟩), .int .i64 ver, .bool false, .bool false, .pointer (some ⟨w.heap.size, 1, none⟩), .int .i64 rate, .pointer (some ⟨w.heap.size + 1, 1, none⟩), .int .i64 rate, .bool false, .bool false, .bool false, .pointer (some ⟨w.heap.size, 2, none⟩), (Sp.mk lo hi all).v, (Sp.mk lo hi all).v, .pointer (some ⟨w.heap.size + 1, 2, none⟩), (Sp.mk lo hi all).v, .bool false, .bool false, .bool false, .pointer (some ⟨w.heap.size, 5, none⟩), .bool false, .pointer (some ⟨w.heap.size + 1, 5, none⟩), .bool false, .bool false, .bool false, .bool false, .pointer (some ⟨w.heap.size, 6, none⟩), .slice ka l.length kc, .int .i64 (l.length : Int), .pointer (some ⟨w.heap.size + 1, 6, none⟩), .slice ba l.length bc, .int .i64 (l.length : Int), .bool false, .bool false, .bool false, .pointer (some ⟨w.heap.size, 7, none⟩), .slice va l.length vc, .int .i64 (l.length : Int), .pointer (some ⟨w.heap.size + 1, 6, none⟩), .slice ba l.length bc, .int .i64 (l.length : Int), .bool false, .bool false, .bool false, .pointer (some ⟨w.heap.size, 8, none⟩), .slice ga l.length gc, .int .i64 (l.length : Int), .pointer (some ⟨w.heap.size + 1, 6, none⟩), .slice ba l.length bc, .int .i64 (l.length : Int), .bool false, .bool false]) (fun β => by kernel_rfl) ?_
  intro β w2 hS2 hz2 b2 _ _ _
  rw [drew_size] at hz2
  simp at hz2
  have HS2 := Lib.hid hS2
  have HB2 := Lib.hid ((drew_below HB0.out).trans (b2.mono (by omega)))
  clear b2 hS2
  rw [Free.puts_from _ _ _ (Nat.le_of_ble_eq_true rfl)]
  simp only [List.take_succ_cons, List.take_zero, List.drop_succ_cons, List.drop_zero, List.cons_append, List.nil_append, List.length_cons, List.length_nil, Nat.reduceAdd]
  go_wp2
  go_loopw [5, 6] (fun ov iv wr => ∃ (i : Nat) (acc : List ByteArray), iv = .int .i64 (i : Int) ∧ i ≤ l.length ∧ acc.length ≤ i ∧ Hid (acc = (l.take i).map En.key) ∧ Hid (OwnS wr (w.heap.size + 2) ov acc) ∧ Hid (Below (w.heap.size + 2) w2 wr)) (fun _ iv _ => l.length - (intOf iv).toNat)
  case atStart => exact ⟨0, [], rfl, by omega, by simp, Lib.hid rfl, Lib.hid (World.ownsRow_nil _ _ _ _), Lib.hid (Below.refl _ _)⟩
  case round =>
    obtain ⟨i, acc, rfl, hil, hal, HA, HO, HBr⟩ := hrel
    have sr := HBr.out.size
    obtain ⟨oa, oc, rfl, hok⟩ := HO.out.keys
    have HOk := Lib.hid hok
    clear hok
    have HSr := Lib.hid (⟨range_below HS2.out.1 HBr.out (by omega), range_below HS2.out.2 HBr.out (by omega)⟩ : _ ∧ _)
    have bw : Below w.heap.size w wr := HB2.out.trans (HBr.out.mono (by omega))
    have HBw := Lib.hid bw
    obtain ⟨f6, _⟩ : wr.cell? ⟨w.heap.size + 1, 6, none⟩ = some (.slice ba l.length bc) ∧ True := ⟨HSr.out.2 6 _ rfl, trivial⟩
    by_cases h1 : i < l.length
    · have i1 : (i : Int) < (l.length : Int) := by omega
      obtain ⟨kb, ko, ek, hkb, kcell⟩ := HK.out.at (k := i) (by rw [List.length_map]; exact h1)
      obtain ⟨vb, vo, ev, hvb, vcell⟩ := HV.out.at (k := i) (by rw [List.length_map]; exact h1)
      obtain ⟨gb, go, eg, hgb, gcell⟩ := HG.out.at (k := i) (by rw [List.length_map]; exact h1)
      obtain ⟨eb, eo, ee, heb, hc⟩ := HE.out.at h1
      rw [List.getElem_map] at kcell vcell gcell
      subst ek ev eg ee
      have HAn : Hid (acc ++ [l[i].key] = (l.take (i + 1)).map En.key) := Lib.hid (by rw [HA.out, List.take_succ_eq_append_getElem h1, List.map_append]; rfl)
      have hc5 : wr.cell? ⟨kb, ko + i, none⟩ = some (.string l[i].key) ∧ wr.cell? ⟨vb, vo + i, none⟩ = some (.string l[i].val) ∧ wr.cell? ⟨gb, go + i, none⟩ = some (.bool l[i].gone) ∧ EnAt wr eb (eo + i * 3) l[i] := ⟨keep bw kcell hkb, keep bw vcell hvb, keep bw gcell hgb, hc.below bw heb⟩
      clear kcell vcell gcell hc bw
      generalize l[i] = x at hc5 HAn
      obtain ⟨k, v, gn⟩ := x
      simp only at hc5 HAn
      go_wp2_with fail
      refine Free.region_puts (S := fun w' => (w'.rangeAt (w.heap.size) 0 [.int .i64 ver, .int .i64 rate, .string lo, .string hi, .bool all, .bool false, .slice (some ⟨kb, ko, none⟩) l.length kc, .slice (some ⟨vb, vo, none⟩) l.length vc, .slice (some ⟨gb, go, none⟩) l.length gc, .slice ta tab.length tc] ∧ w'.rangeAt (w.heap.size + 1) 0 [.int .i64 ver, .int .i64 rate, .string lo, .string hi, .bool all, .bool false, .slice (some ⟨eb, eo, none⟩) l.length bc]) ∧ w'.cell? ⟨kb, ko + i, none⟩ = some (.string k) ∧ w'.cell? ⟨vb, vo + i, none⟩ = some (.string v) ∧ w'.cell? ⟨gb, go + i, none⟩ = some (.bool gn) ∧ EnAt w' eb (eo + i * 3) ⟨k, v, gn⟩) (B0 := wr.heap.size) (w0 := wr.drew) (om := fun _ => 0) (olds := [])
        (tab := [(1, .load 29 ⟨w.heap.size, 6, none⟩ (.slice (some ⟨kb, ko, none⟩) l.length kc)),
          (3, .gen [.slice (some ⟨kb, ko, none⟩) l.length kc, .int .i64 (i : Int)] (.pointer (some ⟨kb, ko + i, none⟩))),
          (4, .load 9 ⟨kb, ko + i, none⟩ (.string k)),
          (6, .load 24 ⟨w.heap.size + 1, 6, none⟩ (.slice (some ⟨eb, eo, none⟩) l.length bc)),
          (8, .gen [.slice (some ⟨eb, eo, none⟩) l.length bc, .int .i64 (i : Int)] (.pointer (some ⟨eb, eo + i * 3, none⟩))),
          (10, .load 9 ⟨eb, eo + i * 3, none⟩ (.string k)),
          (11, .cmp .neq 9 (.string k) (.string k) (.bool false)),
          (14, .load 29 ⟨w.heap.size, 7, none⟩ (.slice (some ⟨vb, vo, none⟩) l.length vc)),
          (16, .gen [.slice (some ⟨vb, vo, none⟩) l.length vc, .int .i64 (i : Int)] (.pointer (some ⟨vb, vo + i, none⟩))),
          (17, .load 9 ⟨vb, vo + i, none⟩ (.string v)),
          (19, .load 24 ⟨w.heap.size + 1, 6, none⟩ (.slice (some ⟨eb, eo, none⟩) l.length bc)),
          (21, .gen [.slice (some ⟨eb, eo, none⟩) l.length bc, .int .i64 (i : Int)] (.pointer (some ⟨eb, eo + i * 3, none⟩))),
          (23, .load 9 ⟨eb, eo + i * 3 + 1, none⟩ (.string v)),
          (24, .cmp .neq 9 (.string v) (.string v) (.bool false)),
          (28, .load 30 ⟨w.heap.size, 8, none⟩ (.slice (some ⟨gb, go, none⟩) l.length gc)),
          (30, .gen [.slice (some ⟨gb, go, none⟩) l.length gc, .int .i64 (i : Int)] (.pointer (some ⟨gb, go + i, none⟩))),
          (31, .load 4 ⟨gb, go + i, none⟩ (.bool gn)),
          (33, .load 24 ⟨w.heap.size + 1, 6, none⟩ (.slice (some ⟨eb, eo, none⟩) l.length bc)),
          (35, .gen [.slice (some ⟨eb, eo, none⟩) l.length bc, .int .i64 (i : Int)] (.pointer (some ⟨eb, eo + i * 3, none⟩))),
          (37, .load 4 ⟨eb, eo + i * 3 + 2, none⟩ (.bool gn)),
          (38, .cmp .neq 4 (.bool gn) (.bool gn) (.bool false))])
        (by kernel_rfl) ⟨by kernel_rfl, ⟨fun _ h => load_29 (h.1.1 6 _ rfl), gen_at _ rfl rfl (fun w => at_29 _ _ _ _ _ h1 w), fun _ h => load_9 h.2.1, fun _ h => load_24 (h.1.2 6 _ rfl), gen_at _ rfl rfl (fun w => at_24 _ _ _ _ _ h1 w), fun _ h => load_9 h.2.2.2.2.1, fun xo yo w => cmp_neq9 xo yo w (by simp), fun _ h => load_29 (h.1.1 7 _ rfl), gen_at _ rfl rfl (fun w => at_29 _ _ _ _ _ h1 w), fun _ h => load_9 h.2.2.1, fun _ h => load_24 (h.1.2 6 _ rfl), gen_at _ rfl rfl (fun w => at_24 _ _ _ _ _ h1 w), fun _ h => load_9 h.2.2.2.2.2.1, fun xo yo w => cmp_neq9 xo yo w (by simp), fun _ h => load_30 (h.1.1 8 _ rfl), gen_at _ rfl rfl (fun w => at_30 _ _ _ _ _ h1 w), fun _ h => load_4 h.2.2.2.1, fun _ h => load_24 (h.1.2 6 _ rfl), gen_at _ rfl rfl (fun w => at_24 _ _ _ _ _ h1 w), fun _ h => load_4 h.2.2.2.2.2.2, fun xo yo w => cmp_neq4 xo yo w (by cases gn <;> rfl), trivial⟩,
          fun β => by kernel_rfl, fun β => by kernel_rfl, fun β => by kernel_rfl, by kernel_rfl, (fun w1 w2 h hb => ⟨⟨range_below h.1.1 hb (by omega), range_below h.1.2 hb (by omega)⟩, cell_keep hb (by show kb < _; omega) h.2.1, cell_keep hb (by show vb < _; omega) h.2.2.1, cell_keep hb (by show gb < _; omega) h.2.2.2.1, h.2.2.2.2.below hb (by omega)⟩), Nat.le_refl _, fun _ _ h => (by cases h), fun _ _ _ _ h => (by cases h)⟩
        ⟨HSr.out, hc5⟩ rfl (fun _ _ h => (by cases h)) (fun _ => Free.from_ 68 [.pointer (some ⟨w.heap.size, 6, none⟩), .slice (some ⟨kb, ko, none⟩) l.length kc, .int .i64 (i : Int), .pointer (some ⟨kb, ko + i, none⟩), .string k, .pointer (some ⟨w.heap.size + 1, 6, none⟩), .slice (some ⟨eb, eo, none⟩) l.length bc, .int .i64 (i : Int), .pointer (some ⟨eb, eo + i * 3, none⟩), .pointer (some ⟨eb, eo + i * 3, none⟩), .string k, .bool false, .bool false, .pointer (some ⟨w.heap.size, 7, none⟩), .slice (some ⟨vb, vo, none⟩) l.length vc, .int .i64 (i : Int), .pointer (some ⟨vb, vo + i, none⟩), .string v, .pointer (some ⟨w.heap.size + 1, 6, none⟩), .slice (some ⟨eb, eo, none⟩) l.length bc, .int .i64 (i : Int), .pointer (some ⟨eb, eo + i * 3, none⟩), .pointer (some ⟨eb, eo + i * 3 + 1, none⟩), .string v, .bool false, .bool false, .bool false, .pointer (some ⟨w.heap.size, 8, none⟩), .slice (some ⟨gb, go, none⟩) l.length gc, .int .i64 (i : Int), .pointer (some ⟨gb, go + i, none⟩), .bool gn, .pointer (some ⟨w.heap.size + 1, 6, none⟩), .slice (some ⟨eb, eo, none⟩) l.length bc, .int .i64 (i : Int), .pointer (some ⟨eb, eo + i * 3, none⟩), .pointer (some ⟨eb, eo + i * 3 + 2, none⟩), .bool gn, .bool false, .bool false]) (fun β => by kernel_rfl) ?_
      intro β w4 hS4 hz b _ _ _
      rw [drew_size] at hz
      have b4 : Below wr.heap.size wr w4 := Below.trans (drew_below (Below.refl wr.heap.size wr)) b
      have HO4 := Lib.hid (HO.out.below b4)
      have HB4 := Lib.hid (HBr.out.trans (b4.mono (by omega)))
      have f6' : w4.cell? ⟨w.heap.size + 1, 6, none⟩ = some (.slice (some ⟨eb, eo, none⟩) l.length bc) := hS4.1.2 6 _ rfl
      obtain ⟨e1, e2, e3⟩ := hS4.2.2.2.2
      simp only at e1 e2 e3
      clear b b4 hS4 f6 hc5 HO HBr HSr HBw
      rw [Free.puts_from _ _ _ (Nat.le_of_ble_eq_true rfl)]
      simp only [List.take_succ_cons, List.take_zero, List.drop_succ_cons, List.drop_zero, List.cons_append, List.nil_append, List.length_cons, List.length_nil, Nat.reduceAdd]
      go_wp2_with (at_builtin; refine wpList_append_str rfl (.tmp 108) (.tmp 115) rfl (w.heap.size + 2) (.slice oa acc.length oc) acc k rfl (HO4.out.alloc _) ⟨w4.heap.size, 0, none⟩ 1 rfl (str_new w4 k 9) (by omega) (by simp; omega) ?_; intro v7 w7 hown hgrow)
      have HO7 := Lib.hid hown
      have HB7 := Lib.hid (below_str (HB4.out.alloc (by omega) _) (HO4.out.alloc _) hgrow (by simp; omega))
      clear hown hgrow
      go_wp2
      go_roundw
      case rel => exact ⟨i + 1, acc ++ [k], by go_num, by omega, by simp; omega, HAn, HO7, HB7⟩
      case measure => simp [intOf]; omega
    · obtain rfl : i = l.length := by omega
      have i1 : ¬ (l.length : Int) < (l.length : Int) := by omega
      have f5 : wr.cell? ⟨w.heap.size + 1, 5, none⟩ = some (.bool false) := HSr.out.2 5 _ rfl
      have f9 : wr.cell? ⟨w.heap.size, 9, none⟩ = some (.slice ta tab.length tc) := HSr.out.1 9 _ rfl
      have eA : acc = l.map En.key := by rw [HA.out, List.take_length]
      have HOk2 : Hid (Keys wr oa acc) := HOk
      have hbd := fun w' (hb : Below wr.heap.size wr w') => refbuild_any oa acc oc w' (HOk2.out.below hb) (by omega) (fun x hx => by rw [eA] at hx; obtain ⟨e, he, rfl⟩ := List.mem_map.1 hx; exact HKs.out e he)
      have hTa : build acc = tab := by rw [eA, HT.out]
      rw [hTa] at hbd
      have HBD := Lib.hid hbd
      have HBwr : Hid (Below w.heap.size w wr) := HBw
      have hlt9 : w.heap.size < wr.heap.size := by omega
      clear hbd hTa eA HA
      go_wp2_with fail
      go_region_with (first
        | (go_at_call 35; refine (HBD.out _ (drew_below (Below.refl _ _))).mono ?_; rintro e w5 ⟨g5, rfl, hg5, ht5, b5⟩; have f9' : w5.cell? ⟨w.heap.size, 9, none⟩ = some (.slice ta tab.length tc) := cell_keep (Below.trans (drew_below (Below.refl wr.heap.size wr)) b5) hlt9 f9)
        | (go_at_call 34; refine (nums_any tab ta (some ⟨g5, 0, none⟩) tc tab.length _ hTm (HTb.out.below (HBwr.out.trans ((Below.trans (drew_below (Below.refl wr.heap.size wr)) b5).mono (by omega)))) ht5.nums).mono ?_; rintro e w6 ⟨rfl, b6⟩))
      all_goals
        have s5 := b5.size
        simp at s5
        go_wp2
        go_ret
        exact ⟨rfl, HBwr.out.trans ((Below.trans (Below.trans (drew_below (Below.refl wr.heap.size wr)) b5) (b6.mono (by omega))).mono (by omega))⟩
end Go.Proofs.Ytkapjijppjfmkaa
