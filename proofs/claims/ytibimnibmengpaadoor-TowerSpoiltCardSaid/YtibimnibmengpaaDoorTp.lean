/- What the law's lay does by its port: a node of each low, the last one first. Conditions: the library's table stands; at most 50 lows, at most 8 links. -/
import Derived.Test.YtibimnibmengpaaDoorTo
namespace Go.Proofs.YtibimnibmengpaaDoor
open Go.RowKit Go.Op
set_option maxRecDepth 100000

theorem load_22 {w : World} {p : Addr} {v : Value} (h : w.cell? p = some v) : (Instr.loadAt 22 (.pointer (some p))).run Tryd.prog w = .ok v w := by go_simp
theorem load_9 {w : World} {p : Addr} {x : ByteArray} (h : w.cell? p = some (.string x)) : (Instr.loadAt 9 (.pointer (some p))).run Tryd.prog w = .ok (.string x) w := by go_simp
section
variable {w0 w : World} {b c r : Nat} {G : List (Nat × List Value)} {zy zo gh gl ol cl gt ot ct n : Nat}
/-- Within lay's loop. -/
def LyX (w0 : World) (b c r : Nat) (G : List (Nat × List Value)) (w : World) (zo gh : Nat) (lows : List ByteArray) (hts : List Int) (i : Nat) (W : World) : Prop :=
  ∃ t1 G1 m1 l, Dgo w0 b c r w.heap.size [b, c, r, gh, zo] w t1 G G1 W m1 (ptDo w b) ∧ Suf m1 lows hts i l ∧ SVar W zo [.bool true] ∧ SVar W gh (ints (List.replicate i 0 ++ l.map Nod.h))
/-- Behind lay's call of Do. -/
def LayQ (w0 : World) (b c r : Nat) (G : List (Nat × List Value)) (w : World) (zo gh : Nat) (lows : List ByteArray) (hts : List Int) (W : World) : Prop :=
  ∃ G1 m1 l, ButN [b, c, r, gh, zo] w.heap.size w W ∧ HasE w0 b c r G1 W m1 ∧ Grow w G G1 ∧ Suf m1 lows hts 0 l ∧ SVar W zo [.bool true] ∧ SVar W gh (ints (l.map Nod.h))
def yrow (b gl ol cl gt ot ct gh n : Nat) : List Value := [.pointer (some ⟨b, 0, none⟩), .slice (some ⟨gl, ol, none⟩) n cl, .slice (some ⟨gt, ot, none⟩) n ct, .slice (some ⟨gh, 0, none⟩) n n]
/-- Behind Make. -/
def PM (w0 : World) (b c r : Nat) (G : List (Nat × List Value)) (w : World) (zo gh : Nat) (m2 : M) (row : List Value) (W : World) : Prop := ∃ t2 G2, Dgo w0 b c r w.heap.size [b, c, r, gh, zo] w t2 G G2 W m2 (ptDo w b) ∧ SVar W zo [.bool true] ∧ SVar W gh row
set_option maxHeartbeats 8000000 in
theorem lay1_any (h : HasE w0 b c r G w (M.new 2000)) (hT : TabAt w0) (lows : List ByteArray) (hts : List Int) (hn : n = lows.length) (hn1 : 1 ≤ n) (hn50 : n ≤ 50) (hhl : hts.length = lows.length) (hh : ∀ x, x ∈ hts → 0 < x ∧ x ≤ 8)
    (hla : (⟨some ⟨gl, ol, none⟩, n, cl⟩ : Sl).In G (strs lows)) (hta : (⟨some ⟨gt, ot, none⟩, n, ct⟩ : Sl).In G (ints hts)) (sy : SVar w zy (yrow b gl ol cl gt ot ct gh n)) (so : SVar w zo [.bool true]) (sh : SVar w gh (ints (List.replicate n 0)))
    (ly : LocM w0 b c r G w zy) (lo : LocM w0 b c r G w zo) (lh : LocM w0 b c r G w gh) (hd1 : zy ≠ zo) (hd2 : zy ≠ gh) (hd3 : zo ≠ gh) :
    Calls Tryd.prog 40 (#[.pointer (some ⟨w.heap.size, 0, none⟩)] ++ #[.pointer (some ⟨zy, 0, none⟩), .pointer (some ⟨zo, 0, none⟩)]) (w.alloc (portObj b)) fun e w' => ∃ u, e = .returned u ∧ u = .nilIface ∧ LayQ w0 b c r G w zo gh lows hts w' := by
  have hD := Dgo.start h (Z := [b, c, r, gh, zo]) ⟨by simp, by simp, by simp⟩
  have hbp := (Below.refl w.heap.size w).alloc (Nat.le_refl _) (portObj b)
  have HH : Hid (LyX w0 b c r G w zo gh lows hts n (w.alloc (portObj b))) := ⟨_, G, _, [], hD, by rw [hn]; exact Suf.start lows hts, so.later hbp, by rw [List.map_nil, List.append_nil]; exact sh.later hbp⟩
  have HL := Lib.hid (⟨ly, lo, lh⟩ : _ ∧ _ ∧ _)
  have hzz : zy ∉ [b, c, r, gh, zo] := by
    have := ly.ne
    simp only [List.mem_cons, List.not_mem_nil, or_false]; omega
  have HY := Lib.hid (fun (t1 : Value) (G1 : List (Nat × List Value)) (w1 : World) (m1 : M) (s1 : Pt) (hd : Dgo w0 b c r w.heap.size [b, c, r, gh, zo] w t1 G G1 w1 m1 s1) => sy.same hd.but.size (hd.but.block zy sy.lt hzz))
  have HI := Lib.hid (⟨hla, hta⟩ : _ ∧ _)
  have HT := Lib.hid hT
  have HN := Lib.hid (⟨hn, hhl, hh⟩ : _ ∧ _ ∧ _)
  have mixed : Tryd.prog.follows .mixedOrders = true := by kernel_rfl
  have hn2 : (n : Int) ≤ 50 := by omega
  have cy1 := (sy.later hbp).cell (i := 1) rfl
  show Calls Tryd.prog 40 #[.pointer (some ⟨w.heap.size, 0, none⟩), .pointer (some ⟨zy, 0, none⟩), .pointer (some ⟨zo, 0, none⟩)] (w.alloc (portObj b)) _
  clear h hT hla hta sy so sh ly lo lh hD hbp hn hhl hh hzz
  generalize w.alloc (portObj b) = wp at *
  go_enter Tryd.func40, Tryd.ntmps40
  go_wp2_with fail
  clear cy1
  go_loopw [5] (fun iv wr => ∃ i : Nat, iv = .int .i64 ((i : Int) - 1) ∧ i ≤ n ∧ Hid (LyX w0 b c r G w zo gh lows hts i wr)) (fun iv _ => (intOf iv + 1).toNat)
  case atStart => exact ⟨n, rfl, Nat.le_refl _, HH⟩
  case round =>
    obtain ⟨i, hiv, hi, hX⟩ := hrel
    rcases i with _ | k
    · have e0 : ((0 : Nat) : Int) - 1 = -1 := by decide
      rw [e0] at hiv
      subst hiv
      have HF : Hid (LayQ w0 b c r G w zo gh lows hts wr) := by
        obtain ⟨t1, G1, m1, l, hD, hS, so, sh⟩ := hX.out
        exact ⟨G1, m1, l, hD.but, hD.sys.mem, hD.gro, hS, so, by rw [List.replicate_zero, List.nil_append] at sh; exact sh⟩
      clear hX HH
      go_wp2_with fail
      go_ret
      exact ⟨_, rfl, rfl, HF.out⟩
    have e0 : ((k + 1 : Nat) : Int) - 1 = (k : Int) := by omega
    rw [e0] at hiv
    subst hiv
    obtain ⟨t1, G1, m1, l, hD, hS, so, sh⟩ := hX.out
    have hk : k < n := by omega
    have hk1 : (k : Int) < (n : Int) := by omega
    have hk0 : (0 : Int) ≤ (k : Int) := by omega
    have hk50 : (k : Int) ≤ 50 := by omega
    obtain ⟨lo, hlo⟩ : ∃ x, lows[k]? = some x := ⟨_, List.getElem?_eq_getElem (by rw [← HN.out.1]; exact hk)⟩
    obtain ⟨N, hN, hN8, hN0⟩ : ∃ N : Nat, hts[k]? = some (N : Int) ∧ N ≤ 8 ∧ 0 < N := by
      obtain ⟨x, hx⟩ : ∃ x, hts[k]? = some x := ⟨_, List.getElem?_eq_getElem (by rw [HN.out.2.1, ← HN.out.1]; exact hk)⟩
      have := HN.out.2.2 x (List.mem_of_getElem? hx)
      exact ⟨x.toNat, by rw [hx]; congr 1; omega, by omega, by omega⟩
    have hl50 : lows.length ≤ 50 := by rw [← HN.out.1]; omega
    obtain ⟨ag, ma, xn, mb, ego1, ego2, hS2, hcb⟩ := hS.step hl50 hlo hN hN8
    have hlinks := hS.links HN.out.2.1 N
    have sy := HY.out _ _ _ _ _ hD
    have hrow := hD.sys.rowAt (HI.out.1.more hD.gro.1) rfl
    have cy1 := sy.cell (i := 1) rfl
    have cl0 : wr.cell? ⟨gl, ol + k, none⟩ = some (.string lo) := hrow.1 k _ (strs_get hlo)
    have hgl : gl < wr.heap.size := hrow.2 fun e => by have := congrArg List.length e; rw [strs, List.length_map, ← HN.out.1] at this; simp at this; omega
    obtain ⟨w6, hw6⟩ : ∃ W, W = wr.alloc (.cells #[.string lo, .string ⟨#[]⟩, .bool true] 49) := ⟨_, rfl⟩
    have hb6 : Below wr.heap.size wr w6 := by rw [hw6]; exact (Below.refl _ _).alloc (Nat.le_refl _) _
    have ss6 : SVar w6 wr.heap.size [.string lo, .string ⟨#[]⟩, .bool true] := by rw [hw6]; exact snew _ _ _
    have HW6 := Lib.hid hw6.symm
    have cy6 : w6.cell? ⟨zy, 1, none⟩ = some (.slice (some ⟨gl, ol, none⟩) n cl) := (sy.later hb6).cell (i := 1) rfl
    have hzw : wr.heap.size < w6.heap.size := ss6.lt
    -- what holds at a round's rest
    have HC : Hid (∀ (sp : Kp) (W : World), spOf lows k = sp → Below wr.heap.size wr W → wr.heap.size < W.heap.size → Dgo w0 b c r w.heap.size [b, c, r, gh, zo] w t1 G G1 W m1 (ptDo w b) ∧ SVar W zo [.bool true] ∧ SVar W gh (ints (List.replicate (k + 1) 0 ++ l.map Nod.h)) ∧ revOf lows k = newR (3 + (k : Int)) sp) := fun sp W hsp hb _ => ⟨hD.later hb, so.later hb, sh.later hb, by rw [revOf, hsp]⟩
    have HR : Hid (((layP (revOf lows k) 0).go m1 = ((ag, 0), ma)) ∧ ((makeP lo ag (linksL hts (List.replicate (k + 1) 0 ++ l.map Nod.h) k N)).go ma = ((xn.h, 0), mb)) ∧ Suf mb lows hts k (xn :: l) ∧ ma.count ≤ m1.count + 2 ∧ m1.count ≤ 600 ∧ hts[k]? = some (N : Int) ∧ l.length + (k + 1) = lows.length) := ⟨ego1, by rw [hlinks]; exact ego2, hS2, hcb, by have := hS.cnt; have := hS.len; omega, hN, hS.len⟩
    have HK := Lib.hid (⟨hk, hN8, hN0⟩ : _ ∧ _ ∧ _)
    have HG : Hid (lows[k]? = some lo) := hlo
    have HS6 : Hid (∀ hi, lows[k + 1]? = some hi → ∀ W, Below w6.heap.size w6 W → (Instr.loadAt 22 (.pointer (some ⟨zy, 1, none⟩))).run Tryd.prog W = .ok (.slice (some ⟨gl, ol, none⟩) n cl) W ∧ (Instr.loadAt 9 (.pointer (some ⟨gl, ol + k, none⟩))).run Tryd.prog W = .ok (.string lo) W ∧ (Instr.loadAt 9 (.pointer (some ⟨gl, ol + (k + 1), none⟩))).run Tryd.prog W = .ok (.string hi) W ∧ (Instr.storeAt 49 (.pointer (some ⟨wr.heap.size, 0, none⟩)) (.agg #[.string lo, .string hi, .bool false])).run Tryd.prog W = .ok () (sput W wr.heap.size [.string lo, .string hi, .bool false]) ∧ Below wr.heap.size wr (sput W wr.heap.size [.string lo, .string hi, .bool false]) ∧ SVar (sput W wr.heap.size [.string lo, .string hi, .bool false]) wr.heap.size [.string lo, .string hi, .bool false] ∧ wr.heap.size < (sput W wr.heap.size [.string lo, .string hi, .bool false]).heap.size) := fun hi hhi W hb => by
      have hbw : Below wr.heap.size wr W := hb6.trans (hb.mono hb6.size)
      have c1 := (sy.later hbw).cell (i := 1) rfl
      have c2 : W.cell? ⟨gl, ol + k, none⟩ = some (.string lo) := by rw [hbw.cell (p := ⟨gl, ol + k, none⟩) hgl]; exact cl0
      have c3 : W.cell? ⟨gl, ol + (k + 1), none⟩ = some (.string hi) := by rw [hbw.cell (p := ⟨gl, ol + (k + 1), none⟩) hgl]; exact hrow.1 (k + 1) _ (strs_get hhi)
      have s7 := ss6.later hb
      have bb : But wr.heap.size W (sput W wr.heap.size [.string lo, .string hi, .bool false]) := But.sput _ _ _
      exact ⟨load_22 c1, load_9 c2, load_9 c3, s7.store (row' := [.string lo, .string hi, .bool false]) rfl sh49 (by intro v hv; simp only [List.mem_cons, List.not_mem_nil, or_false] at hv; rcases hv with rfl | rfl | rfl <;> rfl), hbw.trans (bb.belowAt (Nat.le_refl _) hbw.size), s7.put (row' := [.string lo, .string hi, .bool false]) rfl, by rw [sput_size]; exact s7.lt⟩
    have HB6 := Lib.hid (⟨hb6, ss6, hzw⟩ : _ ∧ _ ∧ _)
    clear hD hS so sh sy hrow hlo hN hN8 hN0 hl50 ego1 ego2 hS2 hcb hlinks hw6 hb6 ss6 hX HH hi hzw hgl hk e0
    by_cases hlast : k + 1 < n
    · have hl2 : (k : Int) + 1 < (n : Int) := by omega
      obtain ⟨hi, hhi⟩ : ∃ x, lows[k + 1]? = some x := ⟨_, List.getElem?_eq_getElem (by rw [← HN.out.1]; exact hlast)⟩
      have HS7 := Lib.hid (⟨HK.out.1, hlast, add1_3 k (by omega), HS6.out hi hhi⟩ : _ ∧ _ ∧ _ ∧ _)
      have HSp : Hid (spOf lows k = ⟨lo, hi, false⟩) := by
        show spOf lows k = _
        rw [spOf, if_pos (by rw [← HN.out.1]; exact hlast), List.getD_eq_getElem?_getD, List.getD_eq_getElem?_getD, HG.out, hhi]; rfl
      clear HS6 hhi hlast
      go_wp2_with (first | rw [HW6.out] | fail)
      refine FreeV.region_puts (S := LS w6 (fun W => Below wr.heap.size wr W ∧ SVar W wr.heap.size [.string lo, .string hi, .bool false] ∧ wr.heap.size < W.heap.size)) (effs := [12])
        (tab := [⟨1, fun _ => [.pointer (some ⟨zy, 1, none⟩)], fun _ => .slice (some ⟨gl, ol, none⟩) n cl, .read⟩,
          ⟨3, fun _ => [.slice (some ⟨gl, ol, none⟩) n cl, .int .i64 (k : Int)], fun _ => .pointer (some ⟨gl, ol + k, none⟩), .pure⟩,
          ⟨4, fun _ => [.pointer (some ⟨gl, ol + k, none⟩)], fun _ => .string lo, .read⟩,
          ⟨6, fun _ => [.pointer (some ⟨zy, 1, none⟩)], fun _ => .slice (some ⟨gl, ol, none⟩) n cl, .read⟩,
          ⟨8, fun _ => [.int .i64 (k : Int), .int .i64 1], fun _ => .int .i64 ((k + 1 : Nat) : Int), .pure⟩,
          ⟨9, fun _ => [.slice (some ⟨gl, ol, none⟩) n cl, .int .i64 ((k + 1 : Nat) : Int)], fun _ => .pointer (some ⟨gl, ol + (k + 1), none⟩), .pure⟩,
          ⟨10, fun _ => [.pointer (some ⟨gl, ol + (k + 1), none⟩)], fun _ => .string hi, .read⟩,
          ⟨11, fun _ => [.string lo, .string hi], fun _ => .agg #[.string lo, .string hi, .bool false], .pure⟩,
          ⟨12, fun _ => [.pointer (some ⟨wr.heap.size, 0, none⟩), .agg #[.string lo, .string hi, .bool false]], fun _ => undef, .put⟩])
        (vs := [([], fun _ => .pointer (some ⟨zy, 1, none⟩)), ([], fun _ => .slice (some ⟨gl, ol, none⟩) n cl), ([], fun _ => .int .i64 (k : Int)), ([], fun _ => .pointer (some ⟨gl, ol + k, none⟩)), ([], fun _ => .string lo), ([], fun _ => .pointer (some ⟨zy, 1, none⟩)), ([], fun _ => .slice (some ⟨gl, ol, none⟩) n cl), ([], fun _ => .int .i64 (k : Int)), ([], fun _ => .int .i64 ((k + 1 : Nat) : Int)), ([], fun _ => .pointer (some ⟨gl, ol + (k + 1), none⟩)), ([], fun _ => .string hi), ([], fun _ => .agg #[.string lo, .string hi, .bool false]), ([], fun _ => undef)])
        (by kernel_rfl) ⟨by kernel_rfl, ⟨FreeV.d_load _ rfl rfl (fun β bs W hS hd => (HS7.out.2.2.2 W (hS.one ((hd 0 12 rfl).2 (.inl (by kernel_rfl))))).1),
          FreeV.d_at _ rfl rfl (fun _ w => at_22 gl ol n cl k HS7.out.1 w),
          FreeV.d_load _ rfl rfl (fun β bs W hS hd => (HS7.out.2.2.2 W (hS.one ((hd 0 12 rfl).2 (.inl (by kernel_rfl))))).2.1),
          FreeV.d_load _ rfl rfl (fun β bs W hS hd => (HS7.out.2.2.2 W (hS.one ((hd 0 12 rfl).2 (.inl (by kernel_rfl))))).1),
          FreeV.d_bin _ rfl rfl (fun _ xo yo w => HS7.out.2.2.1 xo yo w),
          FreeV.d_at _ rfl rfl (fun _ w => at_22 gl ol n cl (k + 1) HS7.out.2.1 w),
          FreeV.d_load _ rfl rfl (fun β bs W hS hd => (HS7.out.2.2.2 W (hS.one ((hd 0 12 rfl).2 (.inl (by kernel_rfl))))).2.2.1),
          FreeV.d_build2 _ rfl rfl (fun _ w => by kernel_rfl),
          FreeV.d_store _ rfl rfl 0 rfl (fun β bs W hS hd => ⟨_, (HS7.out.2.2.2 W (hS.one ((hd 0 12 rfl).2 (.inr rfl)))).2.2.2.1, fun e => (by rw [set_at ((hd 0 12 rfl).2 (.inr rfl))] at e; cases e), fun _ => (HS7.out.2.2.2 W (hS.one ((hd 0 12 rfl).2 (.inr rfl)))).2.2.2.2⟩),
          trivial⟩,
          fun β => by kernel_rfl, fun β => by kernel_rfl, by kernel_rfl, fun β => by kernel_rfl, by kernel_rfl⟩ ls_start (fun β => Free.from_ 33 [.pointer (some ⟨zy, 1, none⟩), .slice (some ⟨gl, ol, none⟩) n cl, .int .i64 (k : Int), .pointer (some ⟨gl, ol + k, none⟩), .string lo, .pointer (some ⟨zy, 1, none⟩), .slice (some ⟨gl, ol, none⟩) n cl, .int .i64 (k : Int), .int .i64 ((k + 1 : Nat) : Int), .pointer (some ⟨gl, ol + (k + 1), none⟩), .string hi, .agg #[.string lo, .string hi, .bool false]]) (fun β => by kernel_rfl) ?_
      intro β w4 h4
      rw [Free.puts_from _ _ _ (Nat.le_of_ble_eq_true rfl)]
      simp only [List.take_succ_cons, List.take_zero, List.drop_succ_cons, List.drop_zero, List.cons_append, List.nil_append, List.length_cons, List.length_nil, Nat.reduceAdd]
      obtain ⟨hbx, ssx, hzx⟩ := h4.two rfl
      have HB7 := Lib.hid (⟨hbx, ssx, hzx⟩ : _ ∧ _ ∧ _)
      clear h4 hbx ssx hzx HB6 HS7 cy1 cl0 cy6
      obtain ⟨hDx, sox, shx, hrev⟩ := HC.out ⟨lo, hi, false⟩ w4 HSp.out HB7.out.1 HB7.out.2.2
      have hr := rnew_any (3 + (k : Int)) ⟨lo, hi, false⟩ w4
      have hld := HB7.out.2.1.load sh49
      have HD4 := Lib.hid (⟨hDx, sox, shx, hrev⟩ : _ ∧ _ ∧ _ ∧ _)
      unfold Kp.v at hr
      clear hDx sox shx hrev HSp
      go_wp2_with (first | rw [HW6.out] | ((with_reducible refine load_run ?_ (.tmp 6) 49 ?_ ?_ hld ?_); exact rfl; exact rfl; exact rfl) | fail)
      refine hr.mono ?_
      rintro e w5 ⟨p, g3, rfl, hNew⟩
      obtain ⟨hDx, sox, shx, hrev⟩ := HD4.out
      have hb5 := hNew.bel
      have hD5 := (hDx.later hb5).frz (hDx.sys.beyond (w1 := w5) hNew.ge hNew.row.lt) hNew.row (Nat.le_trans hDx.but.size hNew.ge)
      obtain ⟨w8, hw8⟩ : ∃ W, W = w5.alloc (.cells ((newR (3 + (k : Int)) ⟨lo, hi, false⟩).row p).toArray 52) := ⟨_, rfl⟩
      have hb8 : Below w5.heap.size w5 w8 := by rw [hw8]; exact (Below.refl _ _).alloc (Nat.le_refl _) _
      have sr8 : SVar w8 w5.heap.size ((newR (3 + (k : Int)) ⟨lo, hi, false⟩).row p) := by rw [hw8]; exact snew _ _ _
      have hD8 := hD5.later hb8
      have hlay := Lay_E hD8.sys HT.out (by have := HR.out.2.2.2.2.1; omega) (newR (3 + (k : Int)) ⟨lo, hi, false⟩) p (hNew.inn _ List.mem_cons_self) 0
      have hld8 := sr8.load sh40
      have HD8 := Lib.hid (⟨hD8, (sox.later hb5).later hb8, (shx.later hb5).later hb8, hrev⟩ : _ ∧ _ ∧ _ ∧ _)
      have HW8 := Lib.hid hw8.symm
      unfold Rv.v at hlay ⊢
      unfold Rv.row at hld8 HW8
      simp only [newR] at hlay hld8 HW8 ⊢
      clear hr hNew hDx sox shx hrev hb5 hD5 hw8 hb8 sr8 hD8 hld HD4 HB7 HC
      go_wp2_with (first | rw [HW8.out] | ((with_reducible refine load_run ?_ (.tmp 7) 52 ?_ ?_ hld8 ?_); exact rfl; exact rfl; exact rfl) | fail)
      refine hlay.mono ?_
      rintro e w9 hE
      obtain ⟨hD8, so8, sh8, hrev⟩ := HD8.out
      have ego := HR.out.1
      rw [hrev] at ego
      simp only [newR] at ego
      obtain ⟨t2, G2, u, rfl, hu, ha⟩ := hE.done (ptDo_quiet w b)
      rw [ego] at hu ha
      replace hu : u = .tuple #[.int .i64 ag, .int .i64 0] := hu
      subst hu
      simp only at ha
      have hD9 := hD8.aft ha
      have lo8 := HL.out.2.1.loc hD8
      have lh8 := HL.out.2.2.loc hD8
      obtain ⟨so9, lo9⟩ := ha.svar lo8 so8
      obtain ⟨sh9, lh9⟩ := ha.svar lh8 sh8
      have sy9 := HY.out _ _ _ _ _ hD9
      have hrl := hD9.sys.rowAt (HI.out.1.more hD9.gro.1) rfl
      have hrt := hD9.sys.rowAt (HI.out.2.more hD9.gro.1) rfl
      have hne : lows.length ≠ 0 := by have := HK.out.1; have := HN.out.1; omega
      have hgl : gl < w9.heap.size := hrl.2 fun e => by have := congrArg List.length e; rw [strs, List.length_map] at this; exact hne this
      have hgt : gt < w9.heap.size := hrt.2 fun e => by have := congrArg List.length e; rw [ints_length, HN.out.2.1] at this; exact hne this
      have HS9 : Hid (∀ W, Below w9.heap.size w9 W → (Instr.loadAt 22 (.pointer (some ⟨zy, 1, none⟩))).run Tryd.prog W = .ok (.slice (some ⟨gl, ol, none⟩) n cl) W ∧ (Instr.loadAt 9 (.pointer (some ⟨gl, ol + k, none⟩))).run Tryd.prog W = .ok (.string lo) W ∧ (Instr.loadAt 29 (.pointer (some ⟨zy, 0, none⟩))).run Tryd.prog W = .ok (.agg #[.pointer (some ⟨b, 0, none⟩), .slice (some ⟨gl, ol, none⟩) n cl, .slice (some ⟨gt, ot, none⟩) n ct, .slice (some ⟨gh, 0, none⟩) n n]) W ∧
          (Calls Tryd.prog 21 #[.agg #[.pointer (some ⟨b, 0, none⟩), .slice (some ⟨gl, ol, none⟩) n cl, .slice (some ⟨gt, ot, none⟩) n ct, .slice (some ⟨gh, 0, none⟩) n n], .int .i64 (k : Int)] W fun e w' => ∃ a cap, e = .returned (.slice a N cap) ∧ w'.ownsRow (W.heap.size + 1) 3 1 (.slice a N cap) N (ints (linksL hts (List.replicate (k + 1) 0 ++ l.map Nod.h) k N)) ∧ Below W.heap.size W w') ∧
          (∀ (g cap : Nat), W.rangeAt g 0 (ints (linksL hts (List.replicate (k + 1) 0 ++ l.map Nod.h) k N)) → g < W.heap.size → Calls Tryd.prog 43 #[.pointer (some ⟨w.heap.size, 0, none⟩), .string lo, .int .i64 ag, .slice (some ⟨g, 0, none⟩) N cap] W fun e w' => e = .returned (.tuple #[.int .i64 xn.h, .int .i64 0]) ∧ PM w0 b c r G w zo gh mb (ints (List.replicate (k + 1) 0 ++ l.map Nod.h)) w')) := fun W hb => by
        have s1 := sy9.later hb
        have c2 : W.cell? ⟨gl, ol + k, none⟩ = some (.string lo) := by rw [hb.cell (p := ⟨gl, ol + k, none⟩) hgl]; exact hrl.1 k _ (strs_get HG.out)
        have hD10 := hD9.later hb
        have hll : (linksL hts (List.replicate (k + 1) 0 ++ l.map Nod.h) k N).length = N := linksL_length _ _ _ _
        refine ⟨load_22 (s1.cell (i := 1) rfl), load_9 c2, s1.load sh29, ?_, fun g cap hr hg => ?_⟩
        · refine links_any ⟨b, ⟨some ⟨gl, ol, none⟩, n, cl⟩, ⟨some ⟨gt, ot, none⟩, n, ct⟩, ⟨some ⟨gh, 0, none⟩, n, n⟩⟩ W hts _ ?_ ?_ (.inr ⟨gt, ot, rfl, Nat.lt_of_lt_of_le hgt hb.size, rangeAt_same hrt.1 (hb.block gt hgt)⟩) (.inr ⟨gh, 0, rfl, (sh9.later hb).lt, (sh9.later hb).at_⟩) ?_ ?_ k N HR.out.2.2.2.2.2.1 (by have := HK.out.2.1; omega)
          · have := HR.out.2.2.2.2.2.2; have := HN.out.2.1; simp; omega
          · have := HN.out; have := HK.out.1; omega
          · show n = _; have := HN.out; omega
          · show n = _; have := HR.out.2.2.2.2.2.2; have := HN.out.1; simp; omega
        · have hm := Make_E hD10.sys HT.out (by have := HR.out.2.2.2.1; have := HR.out.2.2.2.2.1; omega) lo ag ⟨g, 0, none⟩ cap (linksL hts (List.replicate (k + 1) 0 ++ l.map Nod.h) k N) (by rw [hll]; have := HK.out.2.1; omega) (fun j u hj => by rw [add_off]; exact hr j u hj) (fun _ => hg)
          rw [hll] at hm
          refine hm.mono ?_
          rintro e w11 hE
          obtain ⟨t3, G3, u, rfl, hu, ha3⟩ := hE.done (ptDo_quiet w b)
          rw [HR.out.2.1] at hu ha3
          replace hu : u = .tuple #[.int .i64 xn.h, .int .i64 0] := hu
          subst hu
          exact ⟨rfl, t3, G3, hD10.aft ha3, (ha3.svar (lo9.same hb.size) (so9.later hb)).1, (ha3.svar (lh9.same hb.size) (sh9.later hb)).1⟩
      clear hlay hE hD8 so8 sh8 hrev ego ha hD9 lo8 lh8 so9 lo9 sh9 lh9 sy9 hrl hrt hne hgl hgt hld8 HW8 HD8
      go_wp2_with fail
      refine FreeV.region_puts (S := X9 N (linksL hts (List.replicate (k + 1) 0 ++ l.map Nod.h) k N) w9 (PM w0 b c r G w zo gh mb (ints (List.replicate (k + 1) 0 ++ l.map Nod.h))) xn.h) (effs := [9, 10])
        (tab := [⟨2, fun _ => [.pointer (some ⟨zy, 1, none⟩)], fun _ => .slice (some ⟨gl, ol, none⟩) n cl, .read⟩,
          ⟨4, fun _ => [.slice (some ⟨gl, ol, none⟩) n cl, .int .i64 (k : Int)], fun _ => .pointer (some ⟨gl, ol + k, none⟩), .pure⟩,
          ⟨5, fun _ => [.pointer (some ⟨gl, ol + k, none⟩)], fun _ => .string lo, .read⟩,
          ⟨7, fun _ => [.pointer (some ⟨zy, 0, none⟩)], fun _ => .agg #[.pointer (some ⟨b, 0, none⟩), .slice (some ⟨gl, ol, none⟩) n cl, .slice (some ⟨gt, ot, none⟩) n ct, .slice (some ⟨gh, 0, none⟩) n n], .read⟩,
          ⟨9, fun _ => [.func (.func 21) #[] #[], .agg #[.pointer (some ⟨b, 0, none⟩), .slice (some ⟨gl, ol, none⟩) n cl, .slice (some ⟨gt, ot, none⟩) n ct, .slice (some ⟨gh, 0, none⟩) n n], .int .i64 (k : Int)], fun β => (β 9), .get⟩,
          ⟨10, fun β => [.func (.func 43) #[] #[], .pointer (some ⟨w.heap.size, 0, none⟩), .string lo, .int .i64 ag, (β 9)], fun β => (β 10), .get⟩,
          ⟨12, fun β => [(β 10)], fun _ => .int .i64 xn.h, .read⟩,
          ⟨13, fun β => [(β 10)], fun _ => .int .i64 0, .read⟩])
        (vs := [([], fun _ => .pointer (some ⟨w.heap.size, 0, none⟩)), ([], fun _ => .pointer (some ⟨zy, 1, none⟩)), ([], fun _ => .slice (some ⟨gl, ol, none⟩) n cl), ([], fun _ => .int .i64 (k : Int)), ([], fun _ => .pointer (some ⟨gl, ol + k, none⟩)), ([], fun _ => .string lo), ([], fun _ => .int .i64 ag), ([], fun _ => .agg #[.pointer (some ⟨b, 0, none⟩), .slice (some ⟨gl, ol, none⟩) n cl, .slice (some ⟨gt, ot, none⟩) n ct, .slice (some ⟨gh, 0, none⟩) n n]), ([], fun _ => .int .i64 (k : Int)), ([9], fun l => l.headD undef), ([10], fun l => l.headD undef), ([10], fun l => l.headD undef), ([], fun _ => .int .i64 xn.h), ([], fun _ => .int .i64 0), ([], fun _ => .int .i64 xn.h), ([], fun _ => .int .i64 0)])
        (by kernel_rfl) ⟨by kernel_rfl, ⟨FreeV.d_load _ rfl rfl (fun β bs W hS hd => (HS9.out W (hS.one ((hd 1 10 rfl).2 (.inl (by kernel_rfl))))).1),
          FreeV.d_at _ rfl rfl (fun _ w => at_22 gl ol n cl k HK.out.1 w),
          FreeV.d_load _ rfl rfl (fun β bs W hS hd => (HS9.out W (hS.one ((hd 1 10 rfl).2 (.inl (by kernel_rfl))))).2.1),
          FreeV.d_load _ rfl rfl (fun β bs W hS hd => (HS9.out W (hS.one (hS.seq ((hd 0 9 rfl).2 (.inl (by kernel_rfl)))))).2.2.1),
          FreeV.d_get2 _ rfl rfl hx21 0 rfl (fun β bs W hS hd => ((HS9.out W (hS.one (hS.seq ((hd 0 9 rfl).2 (.inr rfl))))).2.2.2.1).mono fun e W2 hE => x9_links hS ((hd 0 9 rfl).2 (.inr rfl)) HK.out.2.2 hE),
          FreeV.d_get4 _ rfl rfl hx43 1 rfl (fun β bs W hS hd => (by
            obtain ⟨g9, c9, e9, r9, l9⟩ := hS.two ((hd 0 9 rfl).1 (by kernel_rfl)) ((hd 1 10 rfl).2 (.inr rfl))
            rw [e9]
            exact ((HS9.out W (hS.one ((hd 1 10 rfl).2 (.inr rfl)))).2.2.2.2 g9 c9 r9 l9).mono fun e W2 hE => x9_make ((hd 0 9 rfl).1 (by kernel_rfl)) ((hd 1 10 rfl).2 (.inr rfl)) hE)),
          FreeV.d_extract _ rfl rfl (fun β bs W hS hd => (by rw [(hS.three ((hd 1 10 rfl).1 (by kernel_rfl))).1]; exact ext0 _ _ _)),
          FreeV.d_extract _ rfl rfl (fun β bs W hS hd => (by rw [(hS.three ((hd 1 10 rfl).1 (by kernel_rfl))).1]; exact ext1 _ _ _)),
          trivial⟩,
          fun β => by kernel_rfl, fun β => by kernel_rfl, by kernel_rfl, fun β => by kernel_rfl, by kernel_rfl⟩ x9_start (fun β => Free.from_ 59 [.pointer (some ⟨w.heap.size, 0, none⟩), .pointer (some ⟨zy, 1, none⟩), .slice (some ⟨gl, ol, none⟩) n cl, .int .i64 (k : Int), .pointer (some ⟨gl, ol + k, none⟩), .string lo, .int .i64 ag, .agg #[.pointer (some ⟨b, 0, none⟩), .slice (some ⟨gl, ol, none⟩) n cl, .slice (some ⟨gt, ot, none⟩) n ct, .slice (some ⟨gh, 0, none⟩) n n], .int .i64 (k : Int), (β 9), (β 10)] ++ [(58, (β 10)), (70, .int .i64 xn.h), (71, .int .i64 0), (11, .int .i64 xn.h), (12, .int .i64 0)]) (fun β => by kernel_rfl) ?_
      intro β w10 h10
      rw [FreeX.puts_append, Free.puts_from _ _ _ (Nat.le_of_ble_eq_true rfl)]
      simp only [List.take_succ_cons, List.take_zero, List.drop_succ_cons, List.drop_zero, List.cons_append, List.nil_append, List.length_cons, List.length_nil, Nat.reduceAdd]
      unfold Free.puts
      simp only [List.foldl_cons, List.foldl_nil]
      obtain ⟨-, t4, G4, hD10, so10, sh10⟩ := h10.three rfl
      have lo10 := HL.out.2.1.loc hD10
      have lh10 := HL.out.2.2.loc hD10
      have sy10 := HY.out _ _ _ _ _ hD10
      have hkl : k < (ints (List.replicate (k + 1) 0 ++ l.map Nod.h)).length := by simp [ints]; omega
      have b11 : But gh w10 (w10.setCell ⟨gh, k, none⟩ (.int .i64 xn.h)) := (But.refl _ _).set _ _
      have sh11 := sh10.set hkl (.int .i64 xn.h)
      rw [hs_set] at sh11
      have so11 := so10.same b11.size (b11.block _ so10.lt hd3)
      have lo11 := lo10.same b11.size
      have b12 : But zo (w10.setCell ⟨gh, k, none⟩ (.int .i64 xn.h)) ((w10.setCell ⟨gh, k, none⟩ (.int .i64 xn.h)).setCell ⟨zo, 0, none⟩ (.bool true)) := (But.refl _ _).set _ _
      have HX2 : Hid (LyX w0 b c r G w zo gh lows hts k ((w10.setCell ⟨gh, k, none⟩ (.int .i64 xn.h)).setCell ⟨zo, 0, none⟩ (.bool true))) :=
        ⟨t4, G4, mb, xn :: l, (hD10.aside b11 lh10 (.inl (by simp))).aside b12 lo11 (.inl (by simp)), HR.out.2.2.1, so11.set (i := 0) (by simp) _, sh11.same b12.size (b12.block _ sh11.lt (by omega))⟩
      have cy3 := sy10.cell (i := 3) rfl
      obtain ⟨vh, ch⟩ : ∃ v, w10.cell? ⟨gh, k, none⟩ = some v := ⟨_, sh10.cell (List.getElem?_eq_getElem hkl)⟩
      have fh := sh10.fz k
      have co := so11.cell (i := 0) rfl
      have fo := so11.fz 0
      clear h10 hD10 so10 sh10 lo10 lh10 sy10 hkl b11 sh11 so11 lo11 b12 HS9 HR
      simp only [Act.put, List.setIfInBounds_toArray, List.set_cons_succ, List.set_cons_zero]
      go_wp2_with fail
      go_roundw
      case rel => exact ⟨k, by simp, by omega, HX2⟩
      case measure => simp [intOf]
    · have hl2 : ¬ (k : Int) + 1 < (n : Int) := by omega
      have HSp : Hid (spOf lows k = ⟨lo, ⟨#[]⟩, true⟩) := by
        show spOf lows k = _
        rw [spOf, if_neg (by rw [← HN.out.1]; exact hlast), List.getD_eq_getElem?_getD, HG.out]; rfl
      have HB7 := HB6
      generalize w6 = w4 at *
      clear HS6 hlast HB6
      obtain ⟨hDx, sox, shx, hrev⟩ := HC.out ⟨lo, ⟨#[]⟩, true⟩ w4 HSp.out HB7.out.1 HB7.out.2.2
      have hr := rnew_any (3 + (k : Int)) ⟨lo, ⟨#[]⟩, true⟩ w4
      have hld := HB7.out.2.1.load sh49
      have HD4 := Lib.hid (⟨hDx, sox, shx, hrev⟩ : _ ∧ _ ∧ _ ∧ _)
      unfold Kp.v at hr
      clear hDx sox shx hrev HSp
      go_wp2_with (first | rw [HW6.out] | ((with_reducible refine load_run ?_ (.tmp 6) 49 ?_ ?_ hld ?_); exact rfl; exact rfl; exact rfl) | fail)
      refine hr.mono ?_
      rintro e w5 ⟨p, g3, rfl, hNew⟩
      obtain ⟨hDx, sox, shx, hrev⟩ := HD4.out
      have hb5 := hNew.bel
      have hD5 := (hDx.later hb5).frz (hDx.sys.beyond (w1 := w5) hNew.ge hNew.row.lt) hNew.row (Nat.le_trans hDx.but.size hNew.ge)
      obtain ⟨w8, hw8⟩ : ∃ W, W = w5.alloc (.cells ((newR (3 + (k : Int)) ⟨lo, ⟨#[]⟩, true⟩).row p).toArray 52) := ⟨_, rfl⟩
      have hb8 : Below w5.heap.size w5 w8 := by rw [hw8]; exact (Below.refl _ _).alloc (Nat.le_refl _) _
      have sr8 : SVar w8 w5.heap.size ((newR (3 + (k : Int)) ⟨lo, ⟨#[]⟩, true⟩).row p) := by rw [hw8]; exact snew _ _ _
      have hD8 := hD5.later hb8
      have hlay := Lay_E hD8.sys HT.out (by have := HR.out.2.2.2.2.1; omega) (newR (3 + (k : Int)) ⟨lo, ⟨#[]⟩, true⟩) p (hNew.inn _ List.mem_cons_self) 0
      have hld8 := sr8.load sh40
      have HD8 := Lib.hid (⟨hD8, (sox.later hb5).later hb8, (shx.later hb5).later hb8, hrev⟩ : _ ∧ _ ∧ _ ∧ _)
      have HW8 := Lib.hid hw8.symm
      unfold Rv.v at hlay ⊢
      unfold Rv.row at hld8 HW8
      simp only [newR] at hlay hld8 HW8 ⊢
      clear hr hNew hDx sox shx hrev hb5 hD5 hw8 hb8 sr8 hD8 hld HD4 HB7 HC
      go_wp2_with (first | rw [HW8.out] | ((with_reducible refine load_run ?_ (.tmp 7) 52 ?_ ?_ hld8 ?_); exact rfl; exact rfl; exact rfl) | fail)
      refine hlay.mono ?_
      rintro e w9 hE
      obtain ⟨hD8, so8, sh8, hrev⟩ := HD8.out
      have ego := HR.out.1
      rw [hrev] at ego
      simp only [newR] at ego
      obtain ⟨t2, G2, u, rfl, hu, ha⟩ := hE.done (ptDo_quiet w b)
      rw [ego] at hu ha
      replace hu : u = .tuple #[.int .i64 ag, .int .i64 0] := hu
      subst hu
      simp only at ha
      have hD9 := hD8.aft ha
      have lo8 := HL.out.2.1.loc hD8
      have lh8 := HL.out.2.2.loc hD8
      obtain ⟨so9, lo9⟩ := ha.svar lo8 so8
      obtain ⟨sh9, lh9⟩ := ha.svar lh8 sh8
      have sy9 := HY.out _ _ _ _ _ hD9
      have hrl := hD9.sys.rowAt (HI.out.1.more hD9.gro.1) rfl
      have hrt := hD9.sys.rowAt (HI.out.2.more hD9.gro.1) rfl
      have hne : lows.length ≠ 0 := by have := HK.out.1; have := HN.out.1; omega
      have hgl : gl < w9.heap.size := hrl.2 fun e => by have := congrArg List.length e; rw [strs, List.length_map] at this; exact hne this
      have hgt : gt < w9.heap.size := hrt.2 fun e => by have := congrArg List.length e; rw [ints_length, HN.out.2.1] at this; exact hne this
      have HS9 : Hid (∀ W, Below w9.heap.size w9 W → (Instr.loadAt 22 (.pointer (some ⟨zy, 1, none⟩))).run Tryd.prog W = .ok (.slice (some ⟨gl, ol, none⟩) n cl) W ∧ (Instr.loadAt 9 (.pointer (some ⟨gl, ol + k, none⟩))).run Tryd.prog W = .ok (.string lo) W ∧ (Instr.loadAt 29 (.pointer (some ⟨zy, 0, none⟩))).run Tryd.prog W = .ok (.agg #[.pointer (some ⟨b, 0, none⟩), .slice (some ⟨gl, ol, none⟩) n cl, .slice (some ⟨gt, ot, none⟩) n ct, .slice (some ⟨gh, 0, none⟩) n n]) W ∧
          (Calls Tryd.prog 21 #[.agg #[.pointer (some ⟨b, 0, none⟩), .slice (some ⟨gl, ol, none⟩) n cl, .slice (some ⟨gt, ot, none⟩) n ct, .slice (some ⟨gh, 0, none⟩) n n], .int .i64 (k : Int)] W fun e w' => ∃ a cap, e = .returned (.slice a N cap) ∧ w'.ownsRow (W.heap.size + 1) 3 1 (.slice a N cap) N (ints (linksL hts (List.replicate (k + 1) 0 ++ l.map Nod.h) k N)) ∧ Below W.heap.size W w') ∧
          (∀ (g cap : Nat), W.rangeAt g 0 (ints (linksL hts (List.replicate (k + 1) 0 ++ l.map Nod.h) k N)) → g < W.heap.size → Calls Tryd.prog 43 #[.pointer (some ⟨w.heap.size, 0, none⟩), .string lo, .int .i64 ag, .slice (some ⟨g, 0, none⟩) N cap] W fun e w' => e = .returned (.tuple #[.int .i64 xn.h, .int .i64 0]) ∧ PM w0 b c r G w zo gh mb (ints (List.replicate (k + 1) 0 ++ l.map Nod.h)) w')) := fun W hb => by
        have s1 := sy9.later hb
        have c2 : W.cell? ⟨gl, ol + k, none⟩ = some (.string lo) := by rw [hb.cell (p := ⟨gl, ol + k, none⟩) hgl]; exact hrl.1 k _ (strs_get HG.out)
        have hD10 := hD9.later hb
        have hll : (linksL hts (List.replicate (k + 1) 0 ++ l.map Nod.h) k N).length = N := linksL_length _ _ _ _
        refine ⟨load_22 (s1.cell (i := 1) rfl), load_9 c2, s1.load sh29, ?_, fun g cap hr hg => ?_⟩
        · refine links_any ⟨b, ⟨some ⟨gl, ol, none⟩, n, cl⟩, ⟨some ⟨gt, ot, none⟩, n, ct⟩, ⟨some ⟨gh, 0, none⟩, n, n⟩⟩ W hts _ ?_ ?_ (.inr ⟨gt, ot, rfl, Nat.lt_of_lt_of_le hgt hb.size, rangeAt_same hrt.1 (hb.block gt hgt)⟩) (.inr ⟨gh, 0, rfl, (sh9.later hb).lt, (sh9.later hb).at_⟩) ?_ ?_ k N HR.out.2.2.2.2.2.1 (by have := HK.out.2.1; omega)
          · have := HR.out.2.2.2.2.2.2; have := HN.out.2.1; simp; omega
          · have := HN.out; have := HK.out.1; omega
          · show n = _; have := HN.out; omega
          · show n = _; have := HR.out.2.2.2.2.2.2; have := HN.out.1; simp; omega
        · have hm := Make_E hD10.sys HT.out (by have := HR.out.2.2.2.1; have := HR.out.2.2.2.2.1; omega) lo ag ⟨g, 0, none⟩ cap (linksL hts (List.replicate (k + 1) 0 ++ l.map Nod.h) k N) (by rw [hll]; have := HK.out.2.1; omega) (fun j u hj => by rw [add_off]; exact hr j u hj) (fun _ => hg)
          rw [hll] at hm
          refine hm.mono ?_
          rintro e w11 hE
          obtain ⟨t3, G3, u, rfl, hu, ha3⟩ := hE.done (ptDo_quiet w b)
          rw [HR.out.2.1] at hu ha3
          replace hu : u = .tuple #[.int .i64 xn.h, .int .i64 0] := hu
          subst hu
          exact ⟨rfl, t3, G3, hD10.aft ha3, (ha3.svar (lo9.same hb.size) (so9.later hb)).1, (ha3.svar (lh9.same hb.size) (sh9.later hb)).1⟩
      clear hlay hE hD8 so8 sh8 hrev ego ha hD9 lo8 lh8 so9 lo9 sh9 lh9 sy9 hrl hrt hne hgl hgt hld8 HW8 HD8
      go_wp2_with fail
      refine FreeV.region_puts (S := X9 N (linksL hts (List.replicate (k + 1) 0 ++ l.map Nod.h) k N) w9 (PM w0 b c r G w zo gh mb (ints (List.replicate (k + 1) 0 ++ l.map Nod.h))) xn.h) (effs := [9, 10])
        (tab := [⟨2, fun _ => [.pointer (some ⟨zy, 1, none⟩)], fun _ => .slice (some ⟨gl, ol, none⟩) n cl, .read⟩,
          ⟨4, fun _ => [.slice (some ⟨gl, ol, none⟩) n cl, .int .i64 (k : Int)], fun _ => .pointer (some ⟨gl, ol + k, none⟩), .pure⟩,
          ⟨5, fun _ => [.pointer (some ⟨gl, ol + k, none⟩)], fun _ => .string lo, .read⟩,
          ⟨7, fun _ => [.pointer (some ⟨zy, 0, none⟩)], fun _ => .agg #[.pointer (some ⟨b, 0, none⟩), .slice (some ⟨gl, ol, none⟩) n cl, .slice (some ⟨gt, ot, none⟩) n ct, .slice (some ⟨gh, 0, none⟩) n n], .read⟩,
          ⟨9, fun _ => [.func (.func 21) #[] #[], .agg #[.pointer (some ⟨b, 0, none⟩), .slice (some ⟨gl, ol, none⟩) n cl, .slice (some ⟨gt, ot, none⟩) n ct, .slice (some ⟨gh, 0, none⟩) n n], .int .i64 (k : Int)], fun β => (β 9), .get⟩,
          ⟨10, fun β => [.func (.func 43) #[] #[], .pointer (some ⟨w.heap.size, 0, none⟩), .string lo, .int .i64 ag, (β 9)], fun β => (β 10), .get⟩,
          ⟨12, fun β => [(β 10)], fun _ => .int .i64 xn.h, .read⟩,
          ⟨13, fun β => [(β 10)], fun _ => .int .i64 0, .read⟩])
        (vs := [([], fun _ => .pointer (some ⟨w.heap.size, 0, none⟩)), ([], fun _ => .pointer (some ⟨zy, 1, none⟩)), ([], fun _ => .slice (some ⟨gl, ol, none⟩) n cl), ([], fun _ => .int .i64 (k : Int)), ([], fun _ => .pointer (some ⟨gl, ol + k, none⟩)), ([], fun _ => .string lo), ([], fun _ => .int .i64 ag), ([], fun _ => .agg #[.pointer (some ⟨b, 0, none⟩), .slice (some ⟨gl, ol, none⟩) n cl, .slice (some ⟨gt, ot, none⟩) n ct, .slice (some ⟨gh, 0, none⟩) n n]), ([], fun _ => .int .i64 (k : Int)), ([9], fun l => l.headD undef), ([10], fun l => l.headD undef), ([10], fun l => l.headD undef), ([], fun _ => .int .i64 xn.h), ([], fun _ => .int .i64 0), ([], fun _ => .int .i64 xn.h), ([], fun _ => .int .i64 0)])
        (by kernel_rfl) ⟨by kernel_rfl, ⟨FreeV.d_load _ rfl rfl (fun β bs W hS hd => (HS9.out W (hS.one ((hd 1 10 rfl).2 (.inl (by kernel_rfl))))).1),
          FreeV.d_at _ rfl rfl (fun _ w => at_22 gl ol n cl k HK.out.1 w),
          FreeV.d_load _ rfl rfl (fun β bs W hS hd => (HS9.out W (hS.one ((hd 1 10 rfl).2 (.inl (by kernel_rfl))))).2.1),
          FreeV.d_load _ rfl rfl (fun β bs W hS hd => (HS9.out W (hS.one (hS.seq ((hd 0 9 rfl).2 (.inl (by kernel_rfl)))))).2.2.1),
          FreeV.d_get2 _ rfl rfl hx21 0 rfl (fun β bs W hS hd => ((HS9.out W (hS.one (hS.seq ((hd 0 9 rfl).2 (.inr rfl))))).2.2.2.1).mono fun e W2 hE => x9_links hS ((hd 0 9 rfl).2 (.inr rfl)) HK.out.2.2 hE),
          FreeV.d_get4 _ rfl rfl hx43 1 rfl (fun β bs W hS hd => (by
            obtain ⟨g9, c9, e9, r9, l9⟩ := hS.two ((hd 0 9 rfl).1 (by kernel_rfl)) ((hd 1 10 rfl).2 (.inr rfl))
            rw [e9]
            exact ((HS9.out W (hS.one ((hd 1 10 rfl).2 (.inr rfl)))).2.2.2.2 g9 c9 r9 l9).mono fun e W2 hE => x9_make ((hd 0 9 rfl).1 (by kernel_rfl)) ((hd 1 10 rfl).2 (.inr rfl)) hE)),
          FreeV.d_extract _ rfl rfl (fun β bs W hS hd => (by rw [(hS.three ((hd 1 10 rfl).1 (by kernel_rfl))).1]; exact ext0 _ _ _)),
          FreeV.d_extract _ rfl rfl (fun β bs W hS hd => (by rw [(hS.three ((hd 1 10 rfl).1 (by kernel_rfl))).1]; exact ext1 _ _ _)),
          trivial⟩,
          fun β => by kernel_rfl, fun β => by kernel_rfl, by kernel_rfl, fun β => by kernel_rfl, by kernel_rfl⟩ x9_start (fun β => Free.from_ 59 [.pointer (some ⟨w.heap.size, 0, none⟩), .pointer (some ⟨zy, 1, none⟩), .slice (some ⟨gl, ol, none⟩) n cl, .int .i64 (k : Int), .pointer (some ⟨gl, ol + k, none⟩), .string lo, .int .i64 ag, .agg #[.pointer (some ⟨b, 0, none⟩), .slice (some ⟨gl, ol, none⟩) n cl, .slice (some ⟨gt, ot, none⟩) n ct, .slice (some ⟨gh, 0, none⟩) n n], .int .i64 (k : Int), (β 9), (β 10)] ++ [(58, (β 10)), (70, .int .i64 xn.h), (71, .int .i64 0), (11, .int .i64 xn.h), (12, .int .i64 0)]) (fun β => by kernel_rfl) ?_
      intro β w10 h10
      rw [FreeX.puts_append, Free.puts_from _ _ _ (Nat.le_of_ble_eq_true rfl)]
      simp only [List.take_succ_cons, List.take_zero, List.drop_succ_cons, List.drop_zero, List.cons_append, List.nil_append, List.length_cons, List.length_nil, Nat.reduceAdd]
      unfold Free.puts
      simp only [List.foldl_cons, List.foldl_nil]
      obtain ⟨-, t4, G4, hD10, so10, sh10⟩ := h10.three rfl
      have lo10 := HL.out.2.1.loc hD10
      have lh10 := HL.out.2.2.loc hD10
      have sy10 := HY.out _ _ _ _ _ hD10
      have hkl : k < (ints (List.replicate (k + 1) 0 ++ l.map Nod.h)).length := by simp [ints]; omega
      have b11 : But gh w10 (w10.setCell ⟨gh, k, none⟩ (.int .i64 xn.h)) := (But.refl _ _).set _ _
      have sh11 := sh10.set hkl (.int .i64 xn.h)
      rw [hs_set] at sh11
      have so11 := so10.same b11.size (b11.block _ so10.lt hd3)
      have lo11 := lo10.same b11.size
      have b12 : But zo (w10.setCell ⟨gh, k, none⟩ (.int .i64 xn.h)) ((w10.setCell ⟨gh, k, none⟩ (.int .i64 xn.h)).setCell ⟨zo, 0, none⟩ (.bool true)) := (But.refl _ _).set _ _
      have HX2 : Hid (LyX w0 b c r G w zo gh lows hts k ((w10.setCell ⟨gh, k, none⟩ (.int .i64 xn.h)).setCell ⟨zo, 0, none⟩ (.bool true))) :=
        ⟨t4, G4, mb, xn :: l, (hD10.aside b11 lh10 (.inl (by simp))).aside b12 lo11 (.inl (by simp)), HR.out.2.2.1, so11.set (i := 0) (by simp) _, sh11.same b12.size (b12.block _ sh11.lt (by omega))⟩
      have cy3 := sy10.cell (i := 3) rfl
      obtain ⟨vh, ch⟩ : ∃ v, w10.cell? ⟨gh, k, none⟩ = some v := ⟨_, sh10.cell (List.getElem?_eq_getElem hkl)⟩
      have fh := sh10.fz k
      have co := so11.cell (i := 0) rfl
      have fo := so11.fz 0
      clear h10 hD10 so10 sh10 lo10 lh10 sy10 hkl b11 sh11 so11 lo11 b12 HS9 HR
      simp only [Act.put, List.setIfInBounds_toArray, List.set_cons_succ, List.set_cons_zero]
      go_wp2_with fail
      go_roundw
      case rel => exact ⟨k, by simp, by omega, HX2⟩
      case measure => simp [intOf]
end
end Go.Proofs.YtibimnibmengpaaDoor
