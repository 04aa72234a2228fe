/- What the reference's Parts answers of any entries and spans. Conditions: at most 1000000 entries, at most 1000 spans, texts of at most 1000000 bytes. -/
import Derived.Test.YthglldnhffkefaaBWalkH
namespace Go.Proofs.Ythglldnhffkefaa
open Go.RowKit Go.Op
set_option maxRecDepth 100000

theorem at_48 (b o n c k : Nat) (h : k < n) (w : World) : (Instr.indexAt 48 (.slice (some ⟨b, o, none⟩) n c) (.int .i64 (k : Int))).run Try.prog w = .ok (.pointer (some ⟨b, o + k * 3, none⟩)) w := by
  have h1 : (k : Int) < (n : Int) := by omega
  go_simp
theorem enter_20 (xs : Array Value) (w : World) : (callFunc 20 xs).run Try.prog w = .ok (.enter 20 xs) w := by kernel_rfl
theorem enter_29p (xs : Array Value) (w : World) : (callFunc 29 xs).run Try.prog w = .ok (.enter 29 xs) w := by kernel_rfl
theorem info22 : (Try.prog.info? 22).map (fun i => (i.zero, i.size, i.bytes)) = some (some (.slice none 0 0), 1, 24) := by kernel_rfl
theorem own_on {T sz : Nat} {w w' : World} {base n : Nat} {v : Value} {vs : List Value} (h : w.ownsRow base T sz v n vs) (hb : Below w.heap.size w w') : w'.ownsRow base T sz v n vs := by
  obtain ⟨e1, e2⟩ := h
  refine ⟨e1, ?_⟩
  rcases e2 with e2 | ⟨g, cap, cur, e, b, c, d⟩
  · exact .inl e2
  · exact .inr ⟨g, cap, cur, e, b, by rw [hb.block g (heap_lt c)]; exact c, d⟩
theorem wpList_append_slot {ops : Array Oper} {rest : List Oper} {o : Oper} {a : Act} {w : World} {Q : Exit → Act → World → Prop} (hg : o.guard = none) (s x : Operand)
    (hop : o.op = Op.call { callee := Callee.builtin Builtin.append, args := #[s, x], argTypes := #[46, 46] })
    (base : Nat) (v : Value) (n : Nat) (vs : List Value) (hs : a.eval s = v) (hown : w.ownsRow base 22 1 v n vs)
    (ad : Addr) (u : Value) (c : Nat) (hu : u.oneCell' = true) (hx : a.eval x = .slice (some ad) 1 c) (hm : w.cell? ad = some u)
    (hb : n ≤ 1000000) (hbase : base ≤ w.heap.size)
    (hK : ∀ v' w', w'.ownsRow base 22 1 v' (n + 1) (vs ++ [u]) → w.grownBy w' v.ownBlock → wpList Try.prog ops Q rest (a.put o.dst v') w') :
    wpList Try.prog ops Q (o :: rest) a w := by
  obtain ⟨i0, hi, hz0, hz1, hz2⟩ := info_parts info22
  refine wpList_plain hg fun _ h => wp_append_own w s x 46 hop base 22 i0 _ 1 24 Try.underlying46 hi hz0 hz1 hz2 rfl (by decide) v _ _ hs hown ad 1 c [u] hx rfl (fun j y hj => ?_) (fun y hy => by rw [List.mem_singleton.1 hy]; exact hu) (by unfold maxLen; omega) (by omega) hbase fun v' w' h1 h2 _ => h _ _ (hK v' w' h1 h2)
  match j, hj with
  | 0, hj =>
    simp only [List.getElem?_cons_zero, Option.some.injEq] at hj
    subst hj
    obtain ⟨b, o, sp⟩ := ad
    cases sp <;> simpa [Addr.add] using hm
  | _ + 1, hj => simp at hj
/-- A row of lists of the call's own; the lists stand since an earlier world. -/
def QR (w2 W : World) (v : Value) (D : List (List En)) : Prop :=
  ∃ vs, W.ownsRow w2.heap.size 22 1 v D.length vs ∧ ∀ k (hk : k < D.length), ∃ a c, vs[k]? = some (.slice a (D[k]'hk).length c) ∧ Cut w2 a (D[k]'hk) c
theorem QR.put_on {w2 W : World} {v : Value} {D : List (List En)} {vs : List Value} {a : Option Addr} {x c : Nat} {l : List En} (h1 : W.ownsRow w2.heap.size 22 1 v (D.length + 1) (vs ++ [.slice a x c]))
    (h2 : ∀ k (hk : k < D.length), ∃ a c, vs[k]? = some (.slice a (D[k]'hk).length c) ∧ Cut w2 a (D[k]'hk) c) (h3 : Cut w2 a l c) (h4 : l.length = x) : QR w2 W v (D ++ [l]) := by
  have hl : vs.length = D.length := by have := h1.1; simp at this; omega
  refine ⟨_, by simpa using h1, fun k hk => ?_⟩
  by_cases e : k = D.length
  · subst e
    refine ⟨a, c, ?_, ?_⟩
    · rw [List.getElem?_append_right (by omega)]
      simp [hl, h4]
    · have : (D ++ [l])[D.length]'hk = l := by simp
      rw [this]
      exact h3
  · have hk2 : k < D.length := by simp at hk; omega
    obtain ⟨a', c', g1, g2⟩ := h2 k hk2
    have e2 : (D ++ [l])[k]'hk = D[k] := List.getElem_append_left hk2
    rw [e2]
    exact ⟨a', c', by rw [List.getElem?_append_left (by omega)]; exact g1, g2⟩
theorem from_at {S : List En} {lo : ByteArray} {d p : Nat} (h1 : d ≤ p) (h2 : p ≤ d + fromN (S.drop d) lo) (h3 : p < S.length) : (lt (S[p]'h3).key lo = true ∧ p + 1 ≤ d + fromN (S.drop d) lo) ∨ (lt (S[p]'h3).key lo = false ∧ d + fromN (S.drop d) lo = p) := by
  obtain ⟨j, rfl⟩ := Nat.exists_eq_add_of_le h1
  have hj : j < (S.drop d).length := by rw [List.length_drop]; omega
  have e : (S.drop d)[j] = S[d + j] := by rw [List.getElem_drop]
  rcases from_step (l := S.drop d) (lo := lo) (i := j) (by omega) hj with ⟨a, b⟩ | ⟨a, b⟩
  · rw [e] at a; exact .inl ⟨a, by omega⟩
  · rw [e] at a; exact .inr ⟨a, by omega⟩
theorem less_on {w W : World} {x y : ByteArray} {b : Bool} (hr : lt x y = b) (hx : x.size ≤ 1000000) (hy : y.size ≤ 1000000) (h : Below w.heap.size w W) : Calls Try.prog 29 #[.string x, .string y] W fun e w' => e = .returned (.bool b) ∧ Below w.heap.size w w' :=
  (less_any x y hx hy W).mono fun _ _ g => ⟨by rw [g.1, hr], h.trans (g.2.mono h.size)⟩

set_option maxHeartbeats 4000000 in
theorem refparts_any (a : Option Addr) (l : List En) (c : Nat) (sa : Option Addr) (r : List Sp) (sc : Nat) (w : World) (hl : l.length ≤ 1000000) (hr : r.length ≤ 1000) (hk : ∀ e ∈ l, e.key.size ≤ 1000000) (hrk : ∀ s ∈ r, s.lo.size ≤ 1000000 ∧ s.hi.size ≤ 1000000) (hE : Ents w a l) (hS : Sps w sa r) :
    Calls Try.prog 18 #[.slice a l.length c, .slice sa r.length sc] w fun e w' => ∃ v w2, e = .returned v ∧ QR w2 w' v (partsL (sortL l) r) ∧ Below w2.heap.size w2 w' ∧ Below w.heap.size w w' := by
  have hso := refsorted_any a l c w hl hk hE
  obtain ⟨PL, hPL⟩ : ∃ PL, PL = partsL (sortL l) r := ⟨_, rfl⟩
  rw [← hPL]
  have HSP := Lib.hid hS
  have HSL := Lib.hid (sort_length l)
  have HRK := Lib.hid hrk
  have HKL : Hid (∀ e ∈ sortL l, e.key.size ≤ 1000000) := Lib.hid (fun e he => hk e (mem_sort.1 he))
  have mixed : Try.prog.follows .mixedOrders = true := by kernel_rfl
  clear hE hS hk hrk
  go_enter Try.func18, Try.ntmps18
  go_wp2_with fail
  refine hso.mono ?_
  rintro e w2 ⟨v, rfl, ho, b2⟩
  obtain ⟨ga, gc, rfl, hcut, _, _⟩ := ho.sl
  have HC := Lib.hid hcut
  have HB2 := Lib.hid b2
  obtain ⟨n, hn⟩ : ∃ n, n = l.length := ⟨_, rfl⟩
  obtain ⟨S, hS0⟩ : ∃ S, S = sortL l := ⟨_, rfl⟩
  rw [HSL.out, ← hn]
  rw [← hS0] at HC HKL HSL hPL
  have HPL := Lib.hid hPL
  rw [← hn] at HSL hl
  have HN := HSL
  clear ho b2 hcut hso hPL hS0 hn HSL
  go_wp2
  go_loopw [6, 7, 8] (fun av ov iv wr => ∃ (d i : Nat) (done : List (List En)), av = .int .i64 (d : Int) ∧ iv = .int .i64 (i : Int) ∧ d ≤ n ∧ i ≤ r.length ∧ Hid (done.length = i) ∧ Hid (done ++ partsL (S.drop d) (r.drop i) = PL) ∧ Hid (QR w2 wr ov done) ∧ Hid (Below w2.heap.size w2 wr)) (fun _ _ iv _ => r.length - (intOf iv).toNat)
  case atStart => exact ⟨0, 0, [], rfl, rfl, by omega, by omega, Lib.hid rfl, Lib.hid (by rw [HPL.out]; rfl), Lib.hid ⟨[], World.ownsRow_nil _ _ _ _, fun k hk => absurd hk (by simp)⟩, Lib.hid (Below.refl _ _)⟩
  case round =>
    obtain ⟨d, i, done, rfl, rfl, hdn, hir, HDL, HDN, HQ, HBR⟩ := hrel
    obtain ⟨wo, hwo⟩ : ∃ wo, wo = wr := ⟨_, rfl⟩
    subst hwo
    by_cases h1 : i < r.length
    · have i1 : (i : Int) < (r.length : Int) := by omega
      obtain ⟨sb, so, rfl, hsb0, hs0⟩ := HSP.out.at h1
      have HST := Lib.hid (parts_step (L := S.drop d) h1)
      have HFA := Lib.hid (fun p (g1 : d ≤ p) (g2 : p ≤ d + fromN (S.drop d) r[i].lo) (g3 : p < S.length) => from_at g1 g2 g3)
      have HKS := Lib.hid (HRK.out _ (List.getElem_mem h1))
      have HAT0 := Lib.hid (hs0.keep HB2.out hsb0)
      have hsb2 : sb < w2.heap.size := Nat.lt_of_lt_of_le hsb0 HB2.out.size
      obtain ⟨t, ht⟩ : ∃ t, t = d + fromN (S.drop d) r[i].lo := ⟨_, rfl⟩
      have hdt : d ≤ t := by omega
      have htn : t ≤ n := by have := fromN_le (S.drop d) r[i].lo; rw [List.length_drop, HN.out] at this; omega
      have HT0 : Hid (S.drop t = fromL (S.drop d) r[i].lo) := Lib.hid (by unfold fromL; rw [List.drop_drop, ht])
      rw [← ht] at HFA
      generalize r[i] = s at HST HFA HKS HAT0 HT0
      generalize fromL (S.drop d) s.lo = F at HT0 HST
      have HAT := HAT0
      clear hs0 ht
      go_wp2
      go_loopw [6] (fun av wr => ∃ p : Nat, av = .int .i64 (p : Int) ∧ d ≤ p ∧ p ≤ t ∧ Hid (Below wo.heap.size wo wr)) (fun av _ => n - (intOf av).toNat)
      case atStart => exact ⟨d, rfl, by omega, hdt, Lib.hid (Below.refl _ _)⟩
      case round =>
        obtain ⟨p, rfl, hdp, hpt, HBQ⟩ := hrel
        by_cases h2 : p < n
        · have i2 : (p : Int) < (n : Int) := by omega
          have h2s : p < S.length := by rw [HN.out]; exact h2
          obtain ⟨gb, go, rfl, heb0, hx0⟩ := HC.out.e.at h2s
          have hcase := HFA.out p hdp hpt h2s
          have HKE := Lib.hid (HKL.out _ (List.getElem_mem h2s))
          generalize S[p] = e at hx0 hcase HKE
          have HBW := Lib.hid (HBR.out.trans (HBQ.out.mono HBR.out.size))
          have hx := hx0.below HBW.out heb0
          have heb : gb < wr.heap.size := Nat.lt_of_lt_of_le heb0 HBW.out.size
          have hsq := HAT.out.keep HBW.out hsb2
          have hsb : sb < wr.heap.size := Nat.lt_of_lt_of_le hsb2 HBW.out.size
          clear hx0
          rcases hcase with ⟨hh, h3⟩ | ⟨hh, h3⟩
          · go_wp2_with fail
            refine FreeS.region_puts (S := fun _ W => Below wr.heap.size wr W) (sts := [])
              (tab := [(2, [.slice (some ⟨gb, go, none⟩) n gc], .int .i64 (n : Int), .pure),
                (3, [.int .i64 (p : Int), .int .i64 (n : Int)], .bool true, .pure),
                (7, [.slice (some ⟨gb, go, none⟩) n gc, .int .i64 (p : Int)], .pointer (some ⟨gb, go + p * 3, none⟩), .pure),
                (9, [.pointer (some ⟨gb, go + p * 3, none⟩)], .string e.key, .read),
                (12, [.slice (some ⟨sb, so, none⟩) r.length sc, .int .i64 (i : Int)], .pointer (some ⟨sb, so + i * 3, none⟩), .pure),
                (14, [.pointer (some ⟨sb, so + i * 3, none⟩)], .string s.lo, .read),
                (15, [.func (.func 29) #[] #[], .string e.key, .string s.lo], .bool true, .call 29 [.string e.key, .string s.lo])])
              (by kernel_rfl) ⟨by kernel_rfl, ⟨FreeS.d_len _ rfl rfl (len_22 _ _ _),
                FreeS.d_bin _ rfl rfl (fun xo yo w => cmp_lss3 xo yo w (decide_eq_true (by omega))),
                FreeS.d_at _ rfl rfl (fun w => at_22 _ _ _ _ _ (by omega) w),
                FreeS.d_load _ rfl rfl (fun w h => load_9 (hx.below h heb).1),
                FreeS.d_at _ rfl rfl (fun w => at_48 _ _ _ _ _ h1 w),
                FreeS.d_load _ rfl rfl (fun w h => load_9 (hsq.keep h hsb).1),
                FreeS.d_call2 _ rfl rfl enter_29 (fun w h => less_on hh HKE.out HKS.out.1 h),
                trivial⟩,
                by kernel_rfl, by kernel_rfl, by kernel_rfl⟩ (drew_below (Below.refl _ _)) (Free.from_ 18 [.int .i64 (p : Int), .slice (some ⟨gb, go, none⟩) n gc, .int .i64 (n : Int), .bool true, .bool true, .slice (some ⟨gb, go, none⟩) n gc, .int .i64 (p : Int), .pointer (some ⟨gb, go + p * 3, none⟩), .pointer (some ⟨gb, go + p * 3, none⟩), .string e.key, .slice (some ⟨sb, so, none⟩) r.length sc, .int .i64 (i : Int), .pointer (some ⟨sb, so + i * 3, none⟩), .pointer (some ⟨sb, so + i * 3, none⟩), .string s.lo, .bool true, .bool true]) (by kernel_rfl) ?_
            intro w4 h4
            rw [Free.puts_from _ _ _ (Nat.le_of_ble_eq_true rfl)]
            simp only [List.take_succ_cons, List.take_zero, List.drop_succ_cons, List.drop_zero, List.cons_append, List.nil_append, List.length_cons, List.length_nil, Nat.reduceAdd]
            have HBN := Lib.hid (HBQ.out.trans (h4.mono HBQ.out.size))
            clear h4 hx hh hsq
            go_wp2
            go_roundw
            case rel => exact ⟨p + 1, by go_num, by omega, h3, HBN⟩
            case measure => simp [intOf]; omega
          · have HT : Hid (S.drop p = F) := Lib.hid (by rw [← h3]; exact HT0.out)
            go_wp2_with fail
            refine FreeS.region_puts (S := fun _ W => Below wr.heap.size wr W) (sts := [])
              (tab := [(2, [.slice (some ⟨gb, go, none⟩) n gc], .int .i64 (n : Int), .pure),
                (3, [.int .i64 (p : Int), .int .i64 (n : Int)], .bool true, .pure),
                (7, [.slice (some ⟨gb, go, none⟩) n gc, .int .i64 (p : Int)], .pointer (some ⟨gb, go + p * 3, none⟩), .pure),
                (9, [.pointer (some ⟨gb, go + p * 3, none⟩)], .string e.key, .read),
                (12, [.slice (some ⟨sb, so, none⟩) r.length sc, .int .i64 (i : Int)], .pointer (some ⟨sb, so + i * 3, none⟩), .pure),
                (14, [.pointer (some ⟨sb, so + i * 3, none⟩)], .string s.lo, .read),
                (15, [.func (.func 29) #[] #[], .string e.key, .string s.lo], .bool false, .call 29 [.string e.key, .string s.lo])])
              (by kernel_rfl) ⟨by kernel_rfl, ⟨FreeS.d_len _ rfl rfl (len_22 _ _ _),
                FreeS.d_bin _ rfl rfl (fun xo yo w => cmp_lss3 xo yo w (decide_eq_true (by omega))),
                FreeS.d_at _ rfl rfl (fun w => at_22 _ _ _ _ _ (by omega) w),
                FreeS.d_load _ rfl rfl (fun w h => load_9 (hx.below h heb).1),
                FreeS.d_at _ rfl rfl (fun w => at_48 _ _ _ _ _ h1 w),
                FreeS.d_load _ rfl rfl (fun w h => load_9 (hsq.keep h hsb).1),
                FreeS.d_call2 _ rfl rfl enter_29 (fun w h => less_on hh HKE.out HKS.out.1 h),
                trivial⟩,
                by kernel_rfl, by kernel_rfl, by kernel_rfl⟩ (drew_below (Below.refl _ _)) (Free.from_ 18 [.int .i64 (p : Int), .slice (some ⟨gb, go, none⟩) n gc, .int .i64 (n : Int), .bool true, .bool true, .slice (some ⟨gb, go, none⟩) n gc, .int .i64 (p : Int), .pointer (some ⟨gb, go + p * 3, none⟩), .pointer (some ⟨gb, go + p * 3, none⟩), .string e.key, .slice (some ⟨sb, so, none⟩) r.length sc, .int .i64 (i : Int), .pointer (some ⟨sb, so + i * 3, none⟩), .pointer (some ⟨sb, so + i * 3, none⟩), .string s.lo, .bool false, .bool false]) (by kernel_rfl) ?_
            intro w4 h4
            rw [Free.puts_from _ _ _ (Nat.le_of_ble_eq_true rfl)]
            simp only [List.take_succ_cons, List.take_zero, List.drop_succ_cons, List.drop_zero, List.cons_append, List.nil_append, List.length_cons, List.length_nil, Nat.reduceAdd]
            clear hx hh hsq h3
            have HBV := Lib.hid (HBQ.out.trans (h4.mono HBQ.out.size))
            have HB4 := Lib.hid (HBR.out.trans (HBV.out.mono HBR.out.size))
            clear h4
            obtain ⟨wu, hwu⟩ : ∃ wu, wu = w4 := ⟨_, rfl⟩
            subst hwu
            have hsbu : sb < wu.heap.size := Nat.lt_of_lt_of_le hsb2 HB4.out.size
            have hsu := HAT.out.keep HB4.out hsb2
            obtain ⟨da, hda⟩ : ∃ da, da = dropA (some ⟨gb, go, none⟩) gc p := ⟨_, rfl⟩
            obtain ⟨dc, hdc⟩ : ∃ dc, dc = gc - p := ⟨_, rfl⟩
            have hcd := (HC.out.drop (k := p) (by rw [HN.out]; omega))
            rw [← hda, ← hdc, HT.out] at hcd
            have hsl : ∀ W, (Instr.sliceAt 22 (.slice (some ⟨gb, go, none⟩) n gc) (some (.int .i64 (p : Int))) none none).run Try.prog W = .ok (.slice da (n - p) dc) W := fun W => by
              rw [hda, hdc]
              exact slice_lo (.inr rfl) (by omega) (by have := HC.out.len; rwa [HN.out] at this) HC.out.big HC.out.none HC.out.spot W
            obtain ⟨x, hx0⟩ : ∃ x, x = wN F s := ⟨_, rfl⟩
            have HX := Lib.hid hx0
            have HFL : Hid (F.length = n - p) := Lib.hid (by rw [← HT.out, List.length_drop, HN.out])
            have hrw : ∀ w', Below wu.heap.size wu w' → Calls Try.prog 20 #[.slice da (n - p) dc, s.v] w' fun e w2 => e = .returned (.slice da x dc) ∧ Below wu.heap.size wu w2 := fun w' hb => by
              have := refwithin_any da F dc s w' (by rw [HFL.out]; omega) (fun e he => HKL.out e (by rw [← HT.out] at he; exact List.mem_of_mem_drop he)) HKS.out.1 HKS.out.2 (hcd.below (HB4.out.trans (hb.mono HB4.out.size)))
              rw [HFL.out, ← HX.out] at this
              exact this.mono fun _ _ g => ⟨g.1, hb.trans (g.2.mono hb.size)⟩
            have HDA := Lib.hid hcd
            clear hda hdc hcd hx0
            go_wp2_with fail
            refine FreeS.region_puts (S := fun _ W => Below wu.heap.size wu W) (sts := [])
              (tab := [(2, [.slice (some ⟨gb, go, none⟩) n gc, .int .i64 (p : Int)], .slice da (n - p) dc, .pure),
                (5, [.slice (some ⟨sb, so, none⟩) r.length sc, .int .i64 (i : Int)], .pointer (some ⟨sb, so + i * 3, none⟩), .pure),
                (6, [.pointer (some ⟨sb, so + i * 3, none⟩)], s.v, .read),
                (7, [.func (.func 20) #[] #[], .slice da (n - p) dc, s.v], .slice da x dc, .call 20 [.slice da (n - p) dc, s.v])])
              (by kernel_rfl) ⟨by kernel_rfl, ⟨FreeS.d_lo _ rfl rfl (fun w => hsl w),
                FreeS.d_at _ rfl rfl (fun w => at_48 _ _ _ _ _ h1 w),
                FreeS.d_load _ rfl rfl (fun w h => load_40 (hsu.keep h hsbu)),
                FreeS.d_call2 _ rfl rfl enter_20 (fun w h => hrw w h),
                trivial⟩,
                by kernel_rfl, by kernel_rfl, by kernel_rfl⟩ (drew_below (Below.refl _ _)) (Free.from_ 37 [.slice (some ⟨gb, go, none⟩) n gc, .int .i64 (p : Int), .slice da (n - p) dc, .slice (some ⟨sb, so, none⟩) r.length sc, .int .i64 (i : Int), .pointer (some ⟨sb, so + i * 3, none⟩), s.v, .slice da x dc] ++ [(9, .slice da x dc)]) (by kernel_rfl) ?_
            intro w5 h5
            rw [FreeX.puts_append, Free.puts_from _ _ _ (Nat.le_of_ble_eq_true rfl)]
            simp only [List.take_succ_cons, List.take_zero, List.drop_succ_cons, List.drop_zero, List.cons_append, List.nil_append, List.length_cons, List.length_nil, Nat.reduceAdd]
            unfold Free.puts
            simp only [List.foldl_cons, List.foldl_nil]
            have HB5 := Lib.hid (HB4.out.trans (h5.mono HB4.out.size))
            have hxl : x ≤ F.length := by rw [HX.out]; exact wN_le F s
            have HWI : Hid (Cut w2 da (withinL F s) dc) := Lib.hid (HDA.out.take _)
            have HWL : Hid ((withinL F s).length = x) := Lib.hid (by rw [within_length, HX.out])
            have HXF := HFL.out
            obtain ⟨vs, hown0, hvs⟩ := HQ.out
            have hown : w5.ownsRow w2.heap.size 22 1 u7 done.length vs := own_on hown0 (HBV.out.trans (h5.mono HBV.out.size))
            have HVS := Lib.hid hvs
            have sz5 := HB5.out.size
            have hxx : x ≤ 1000000 := by omega
            have hdl : done.length ≤ 1000 := by have := HDL.out; omega
            clear h5 hown0 hvs hsl hrw hsu
            go_wp2_with (at_builtin; refine wpList_append_slot rfl (.tmp 45) (.tmp 47) rfl w2.heap.size u7 done.length vs rfl (hown.alloc _) ⟨w5.heap.size, 0, none⟩ (.slice da x dc) 1 rfl rfl (by simp) (by omega) (by simp; omega) ?_; intro v' w6 hown' hgrow)
            have HB6 := Lib.hid ((HB5.out.alloc sz5 (.cells #[.slice da x dc] 22)).grown hgrow (by simp; omega) (fun k hk => (World.ownsRow.lt (hown.alloc (.cells #[.slice da x dc] 22)) k hk).1))
            have HQ6 : Hid (QR w2 w6 v' (done ++ [withinL F s])) := Lib.hid (QR.put_on hown' HVS.out HWI.out HWL.out)
            have HDN6 : Hid ((done ++ [withinL F s]) ++ partsL (S.drop (p + x)) (r.drop (i + 1)) = PL) := Lib.hid (by rw [← HDN.out, HST.out, ← HX.out, ← HT.out, List.drop_drop]; simp)
            have HDL6 : Hid ((done ++ [withinL F s]).length = i + 1) := Lib.hid (by have := HDL.out; simp; omega)
            clear hown hown' hgrow HVS
            go_wp2
            go_roundw
            case rel => exact ⟨p + x, i + 1, done ++ [withinL F s], by go_num, by go_num, by omega, by omega, HDL6, HDN6, HQ6, HB6⟩
            case measure => simp [intOf]; omega
        · obtain rfl : n = p := by omega
          have i2 : ¬ (n : Int) < (n : Int) := by omega
          have HT : Hid (S.drop n = F) := Lib.hid (by rw [← HT0.out]; congr 1; omega)
          go_wp2_with fail
          refine FreeS.region_puts (S := fun _ W => Below wr.heap.size wr W) (sts := [])
            (tab := [(2, [.slice ga n gc], .int .i64 (n : Int), .pure),
              (3, [.int .i64 (n : Int), .int .i64 (n : Int)], .bool false, .pure)])
            (by kernel_rfl) ⟨by kernel_rfl, ⟨FreeS.d_len _ rfl rfl (len_22 _ _ _),
              FreeS.d_bin _ rfl rfl (fun xo yo w => cmp_lss3 xo yo w (decide_eq_false (by omega))),
              trivial⟩,
              by kernel_rfl, by kernel_rfl, by kernel_rfl⟩ (drew_below (Below.refl _ _)) (Free.from_ 18 [.int .i64 (n : Int), .slice ga n gc, .int .i64 (n : Int), .bool false, .bool false, undef, undef, undef, undef, undef, undef, undef, undef, undef, undef, undef, .bool false]) (by kernel_rfl) ?_
          intro w4 h4
          rw [Free.puts_from _ _ _ (Nat.le_of_ble_eq_true rfl)]
          simp only [List.take_succ_cons, List.take_zero, List.drop_succ_cons, List.drop_zero, List.cons_append, List.nil_append, List.length_cons, List.length_nil, Nat.reduceAdd]
          have HBV := Lib.hid (HBQ.out.trans (h4.mono HBQ.out.size))
          have HB4 := Lib.hid (HBR.out.trans (HBV.out.mono HBR.out.size))
          clear h4
          obtain ⟨wu, hwu⟩ : ∃ wu, wu = w4 := ⟨_, rfl⟩
          subst hwu
          have hsbu : sb < wu.heap.size := Nat.lt_of_lt_of_le hsb2 HB4.out.size
          have hsu := HAT.out.keep HB4.out hsb2
          obtain ⟨da, hda⟩ : ∃ da, da = dropA ga gc n := ⟨_, rfl⟩
          obtain ⟨dc, hdc⟩ : ∃ dc, dc = gc - n := ⟨_, rfl⟩
          have hcd := (HC.out.drop (k := n) (by rw [HN.out]; omega))
          rw [← hda, ← hdc, HT.out] at hcd
          have hsl : ∀ W, (Instr.sliceAt 22 (.slice ga n gc) (some (.int .i64 (n : Int))) none none).run Try.prog W = .ok (.slice da (n - n) dc) W := fun W => by
            rw [hda, hdc]
            exact slice_lo (.inr rfl) (by omega) (by have := HC.out.len; rwa [HN.out] at this) HC.out.big HC.out.none HC.out.spot W
          obtain ⟨x, hx0⟩ : ∃ x, x = wN F s := ⟨_, rfl⟩
          have HX := Lib.hid hx0
          have HFL : Hid (F.length = n - n) := Lib.hid (by rw [← HT.out, List.length_drop, HN.out])
          have hrw : ∀ w', Below wu.heap.size wu w' → Calls Try.prog 20 #[.slice da (n - n) dc, s.v] w' fun e w2 => e = .returned (.slice da x dc) ∧ Below wu.heap.size wu w2 := fun w' hb => by
            have := refwithin_any da F dc s w' (by rw [HFL.out]; omega) (fun e he => HKL.out e (by rw [← HT.out] at he; exact List.mem_of_mem_drop he)) HKS.out.1 HKS.out.2 (hcd.below (HB4.out.trans (hb.mono HB4.out.size)))
            rw [HFL.out, ← HX.out] at this
            exact this.mono fun _ _ g => ⟨g.1, hb.trans (g.2.mono hb.size)⟩
          have HDA := Lib.hid hcd
          clear hda hdc hcd hx0
          go_wp2_with fail
          refine FreeS.region_puts (S := fun _ W => Below wu.heap.size wu W) (sts := [])
            (tab := [(2, [.slice ga n gc, .int .i64 (n : Int)], .slice da (n - n) dc, .pure),
              (5, [.slice (some ⟨sb, so, none⟩) r.length sc, .int .i64 (i : Int)], .pointer (some ⟨sb, so + i * 3, none⟩), .pure),
              (6, [.pointer (some ⟨sb, so + i * 3, none⟩)], s.v, .read),
              (7, [.func (.func 20) #[] #[], .slice da (n - n) dc, s.v], .slice da x dc, .call 20 [.slice da (n - n) dc, s.v])])
            (by kernel_rfl) ⟨by kernel_rfl, ⟨FreeS.d_lo _ rfl rfl (fun w => hsl w),
              FreeS.d_at _ rfl rfl (fun w => at_48 _ _ _ _ _ h1 w),
              FreeS.d_load _ rfl rfl (fun w h => load_40 (hsu.keep h hsbu)),
              FreeS.d_call2 _ rfl rfl enter_20 (fun w h => hrw w h),
              trivial⟩,
              by kernel_rfl, by kernel_rfl, by kernel_rfl⟩ (drew_below (Below.refl _ _)) (Free.from_ 37 [.slice ga n gc, .int .i64 (n : Int), .slice da (n - n) dc, .slice (some ⟨sb, so, none⟩) r.length sc, .int .i64 (i : Int), .pointer (some ⟨sb, so + i * 3, none⟩), s.v, .slice da x dc] ++ [(9, .slice da x dc)]) (by kernel_rfl) ?_
          intro w5 h5
          rw [FreeX.puts_append, Free.puts_from _ _ _ (Nat.le_of_ble_eq_true rfl)]
          simp only [List.take_succ_cons, List.take_zero, List.drop_succ_cons, List.drop_zero, List.cons_append, List.nil_append, List.length_cons, List.length_nil, Nat.reduceAdd]
          unfold Free.puts
          simp only [List.foldl_cons, List.foldl_nil]
          have HB5 := Lib.hid (HB4.out.trans (h5.mono HB4.out.size))
          have hxl : x ≤ F.length := by rw [HX.out]; exact wN_le F s
          have HWI : Hid (Cut w2 da (withinL F s) dc) := Lib.hid (HDA.out.take _)
          have HWL : Hid ((withinL F s).length = x) := Lib.hid (by rw [within_length, HX.out])
          have HXF := HFL.out
          obtain ⟨vs, hown0, hvs⟩ := HQ.out
          have hown : w5.ownsRow w2.heap.size 22 1 u7 done.length vs := own_on hown0 (HBV.out.trans (h5.mono HBV.out.size))
          have HVS := Lib.hid hvs
          have sz5 := HB5.out.size
          have hxx : x ≤ 1000000 := by omega
          have hdl : done.length ≤ 1000 := by have := HDL.out; omega
          clear h5 hown0 hvs hsl hrw hsu
          go_wp2_with (at_builtin; refine wpList_append_slot rfl (.tmp 45) (.tmp 47) rfl w2.heap.size u7 done.length vs rfl (hown.alloc _) ⟨w5.heap.size, 0, none⟩ (.slice da x dc) 1 rfl rfl (by simp) (by omega) (by simp; omega) ?_; intro v' w6 hown' hgrow)
          have HB6 := Lib.hid ((HB5.out.alloc sz5 (.cells #[.slice da x dc] 22)).grown hgrow (by simp; omega) (fun k hk => (World.ownsRow.lt (hown.alloc (.cells #[.slice da x dc] 22)) k hk).1))
          have HQ6 : Hid (QR w2 w6 v' (done ++ [withinL F s])) := Lib.hid (QR.put_on hown' HVS.out HWI.out HWL.out)
          have HDN6 : Hid ((done ++ [withinL F s]) ++ partsL (S.drop (n + x)) (r.drop (i + 1)) = PL) := Lib.hid (by rw [← HDN.out, HST.out, ← HX.out, ← HT.out, List.drop_drop]; simp)
          have HDL6 : Hid ((done ++ [withinL F s]).length = i + 1) := Lib.hid (by have := HDL.out; simp; omega)
          clear hown hown' hgrow HVS
          go_wp2
          go_roundw
          case rel => exact ⟨n + x, i + 1, done ++ [withinL F s], by go_num, by go_num, by omega, by omega, HDL6, HDN6, HQ6, HB6⟩
          case measure => simp [intOf]; omega
    · obtain rfl : i = r.length := by omega
      have i1 : ¬ (r.length : Int) < (r.length : Int) := by omega
      have HE : Hid (done = PL) := Lib.hid (by have := HDN.out; rw [List.drop_length] at this; simpa [partsL] using this)
      go_wp2
      go_ret
      exact ⟨_, rfl, w2, by rw [← HE.out]; exact HQ.out, HBR.out, HB2.out.trans (HBR.out.mono HB2.out.size)⟩
end Go.Proofs.Ythglldnhffkefaa
