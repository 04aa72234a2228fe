/- StepAlone's law: at any byte and any asks it answers true. Conditions: the asks can be read; the library's table stands. -/
import Derived.Test.YthdcilbbllldiaaDoorLawE
namespace Go.Proofs.YthdcilbbllldiaaDoor
open Go.RowKit Go.Op
set_option maxRecDepth 100000

theorem eq32_any (v : Value) (hv : ∃ a b c d e : Int, v = .agg #[.int .i64 a, .int .i64 b, .int .i64 c, .int .i64 d, .int .i64 e]) (xo yo : Operand) (w : World) : (eqGuard .eql 32 xo yo v v).run Tryd.prog w = .ok () w ∧ (binOp .eql 32 v v).run Tryd.prog w = .ok (.bool true) w := by
  obtain ⟨a, b, c, d, e, rfl⟩ := hv
  constructor
  · kernel_rfl
  · go_simp
/-- The loop's head, behind i rounds. -/
def AHead (w0 : World) (b c r b2 c2 r2 vb rb lb xb : Nat) (ad : Option Addr) (cap : Nat) (l : List Aq) (m0 : M) (i : Nat) (m : M) (rr : Rn) (x : Mach) (rc cp : Nat) (w : World) : Prop :=
  m = (seqR l m0 i).2 ∧ rr = (seqR l m0 i).1 ∧ Al w0 b c r b2 c2 r2 vb rb lb ad cap l m0 (i * 42) m rr m rr x rc cp w ∧ x.xb = xb ∧ rr.steps = i ∧ rr.at_ ≤ l.length ∧ i ≤ rr.at_ ∧ (∀ j, j < i → (seqR l m0 j).1.at_ < l.length) ∧ x.fin = decide (l ≠ [] ∧ l.length ≤ rr.at_)

set_option maxHeartbeats 1000000 in
theorem alone_law (n : Nat) (hn8 : n ≤ 255) (ad : Option Addr) (l : List Aq) (cap : Nat) (w : World) (hT : TabAt w) (hL : Asks w ad l) (hK : AsksOk l) :
    Calls Tryd.prog 3 #[.int .u8 (n : Int), .slice ad l.length cap] w fun e w' => e = .returned (.bool true) ∧ Below w.heap.size w w' := by
  have mixed : Tryd.prog.follows .mixedOrders = true := by kernel_rfl
  have haw := awake_any w hT
  by_cases hl : l.length ≤ 40
  · have hl2 : ¬ (l.length : Int) > 40 := by omega
    have HL := Lib.hid hL
    have HK := Lib.hid hK
    have HT := Lib.hid hT
    clear hL hT hK
    go_enter Tryd.func3, Tryd.ntmps3
    go_wp2_with fail
    refine haw.mono ?_
    rintro e w1 ⟨rfl, b1⟩
    have hm1 := memory_any n hn8 b1
    clear haw b1
    go_wp2_with fail
    refine hm1.mono ?_
    rintro e w2 ⟨⟨b, c, r, rfl, hH, hb, hc, hr⟩, b12⟩
    have hm2 := memory_any n hn8 hH.below
    have HH := Lib.hid hH
    clear hm1 hH b12 hb hc hr
    go_wp2_with fail
    refine hm2.mono ?_
    rintro e w3 ⟨⟨b2, c2, r2, rfl, hH2, hb, hc, hr⟩, b23⟩
    have HH3 := Lib.hid (HH.out.later b23)
    have HO3 := Lib.hid (⟨hH2, hb, hc, hr, HH.out.at_.own.lb, HH.out.at_.own.lc, HH.out.at_.own.lr⟩ : _ ∧ _ ∧ _ ∧ _ ∧ _ ∧ _ ∧ _)
    have hrn := refnew_any w3 (1 + n % 60) (by omega)
    have HB2 : Hid (w.heap.size ≤ b2 ∧ w.heap.size ≤ c2 ∧ w.heap.size ≤ r2) := by
      have := HH.out.below.size
      exact ⟨by omega, by omega, by omega⟩
    clear hm2 hH2 hb hc hr b23 HH
    go_wp2_with fail
    refine hrn.mono ?_
    rintro e w4 ⟨rc, cp, rfl, rA, b34, hrc⟩
    clear hrn
    obtain ⟨m0, hm0⟩ : ∃ m, m = M.new (1 + n % 60) := ⟨_, rfl⟩
    have hok0 : m0.Ok 0 := by rw [hm0]; exact new_ok _ (by omega)
    rw [← hm0] at HH3 HO3 rA ⊢
    have HOK := Lib.hid hok0
    clear hm0 hok0
    obtain ⟨w5, h5⟩ : ∃ W, W = w4.alloc (.cells #[.slice (some ⟨rc, 0, none⟩) m0.cells.length cp, .int .i64 m0.count, .int .i64 m0.live, .int .i64 m0.stale] 29) := ⟨_, rfl⟩
    obtain ⟨w6, h6⟩ : ∃ W, W = w5.alloc (.cells #[.int .i64 0, .int .i64 0, .int .i64 0, .int .i64 0, .int .i64 0] 32) := ⟨_, rfl⟩
    have hda := does_any ad l.length cap w6
    have z5 : w5.heap.size = w4.heap.size + 1 := by rw [h5]; simp
    have H5 := Lib.hid h5.symm
    have H6 := Lib.hid h6.symm
    have HZ5 := Lib.hid z5
    have HRA := Lib.hid (⟨rA, b34, hrc⟩ : _ ∧ _ ∧ _)
    unfold M.rv
    clear h5 h6 z5 rA b34 hrc
    go_wp2_with fail
    rw [H5.out, ← HZ5.out, H6.out]
    refine hda.mono ?_
    rintro e w7 ⟨rfl, h7⟩
    have hnm := newmach_any (b := b) (caps31 w6.heap.size) w7 ⟨_, _, rfl⟩
    have H7 := Lib.hid h7
    clear hda h7
    go_wp2_with fail
    refine hnm.mono ?_
    rintro e w8 ⟨rfl, h8⟩
    have HA0 := Lib.hid (al_start (ad := ad) (cap := cap) (l := l) HH3.out HO3.out.1 (by
      obtain ⟨_, g1, g2, g3, g4, g5, g6⟩ := HO3.out
      rintro z (e | e | e) <;> omega) HRA.out.1 HRA.out.2.1 HRA.out.2.2 (cp := cp) H5.out.symm H6.out.symm H7.out h8)
    obtain ⟨vb, hvb⟩ : ∃ q, q = w4.heap.size := ⟨_, rfl⟩
    obtain ⟨rb, hrb⟩ : ∃ q, q = w5.heap.size := ⟨_, rfl⟩
    obtain ⟨lb, hlb⟩ : ∃ q, q = w6.heap.size := ⟨_, rfl⟩
    obtain ⟨xb, hxb⟩ : ∃ q, q = w7.heap.size := ⟨_, rfl⟩
    rw [← hvb, ← hrb, ← hlb, ← hxb] at HA0
    rw [← hvb, ← hrb, ← hxb]
    have HAH : Hid (AHead w b c r b2 c2 r2 vb rb lb xb ad cap l m0 0 m0 r0 (mach0 xb (caps31 lb)) rc cp w8) := by
      refine ⟨rfl, rfl, HA0.out, rfl, rfl, Nat.zero_le _, Nat.le_refl _, fun j hj => absurd hj (Nat.not_lt_zero _), ?_⟩
      show false = _
      cases l
      · simp
      · simp [r0]
    have hen := ended_any HA0.out.mac
    have hst := steps_any HA0.out.mac
    have hno := noted_any HA0.out.mac
    clear hnm h8 hvb hrb hlb hxb H5 H6 H7 HZ5 HRA HH3 HA0
    go_wp2_with fail
    refine hen.mono ?_
    rintro e w9 ⟨rfl, rfl⟩
    go_wp2_with fail
    refine hst.mono ?_
    rintro e w9 ⟨rfl, rfl⟩
    go_wp2_with fail
    refine hno.mono ?_
    rintro e w9 ⟨rfl, rfl⟩
    clear hen hst hno
    go_wp2_with fail
    go_loopw [12] (fun iv wr => ∃ (i : Nat) (m : M) (rr : Rn) (x : Mach) (rc cp : Nat), iv = .int .i64 (i : Int) ∧ Hid (AHead w b c r b2 c2 r2 vb rb lb xb ad cap l m0 i m rr x rc cp wr)) (fun iv _ => 40 - (intOf iv).toNat)
    case atStart => exact ⟨0, _, _, _, _, _, rfl, HAH.out⟩
    case round =>
      obtain ⟨i, m, rr, x, rc, cp, rfl, hR⟩ := hrel
      clear HAH HO3
      obtain ⟨em, er, hA, hxb, hst, hat, hle, hgo, hfin⟩ := hR.out
      have HA := Lib.hid hA
      obtain ⟨c0, c1, c2', c3, c4⟩ := hA.rn
      have hi40 : i ≤ 40 := by omega
      have hs40 : rr.steps ≤ 40 := by omega
      have HT1 := Lib.hid (⟨hst, hxb⟩ : rr.steps = i ∧ x.xb = xb)
      clear hst hxb
      have HO : Hid (m.Ok 2305843009213693952) := (hA.team.has.ok.mono (by omega))
      by_cases hlt : rr.at_ < l.length
      · have i1 : (rr.at_ : Int) < (l.length : Int) := by omega
        obtain ⟨pa, off, ea, hpa, hz⟩ := HL.out.at_ hA.team.has.below hlt
        subst ea
        have hge : l[rr.at_]? = some l[rr.at_] := List.getElem?_eq_getElem hlt
        have hzk := HK.out _ (List.getElem_mem hlt)
        generalize l[rr.at_] = z at hz hge hzk
        have HZ := Lib.hid (⟨hz, Nat.lt_of_lt_of_le hpa hA.team.has.below.size, hzk⟩ : AqAt wr pa (off + rr.at_ * 6) z ∧ pa < wr.heap.size ∧ (0 ≤ z.act ∧ z.act ≤ 255))
        have HE := Lib.hid hge
        clear hz hzk hge em er hA hgo hfin
        go_wp2_with fail
        refine FreeV.region_puts (S := RMid 8 14 wr rc m z rr.told) (effs := [8, 14, 15])
          (tab := [⟨0, fun _ => [.pointer (some ⟨vb, 0, none⟩)], fun _ => (m.rv rc cp), .read⟩,
            ⟨3, fun _ => [.pointer (some ⟨rb, 0, none⟩)], fun _ => .int .i64 (rr.at_ : Int), .read⟩,
            ⟨4, fun _ => [(.slice (some ⟨pa, off, none⟩) l.length cap), .int .i64 (rr.at_ : Int)], fun _ => .pointer (some ⟨pa, (off + rr.at_ * 6), none⟩), .pure⟩,
            ⟨5, fun _ => [.pointer (some ⟨pa, (off + rr.at_ * 6), none⟩)], fun _ => z.v, .read⟩,
            ⟨7, fun _ => [.pointer (some ⟨rb, 1, none⟩)], fun _ => .int .i64 rr.told, .read⟩,
            ⟨8, fun _ => [.func (.func 14) #[] #[], (m.rv rc cp), z.v, .int .i64 rr.told], fun β => (β 8), .get⟩,
            ⟨10, fun β => [(β 8)], fun β => (nth 0 (β 8)), .read⟩,
            ⟨11, fun β => [(β 8)], fun β => (nth 1 (β 8)), .read⟩,
            ⟨12, fun β => [(β 8)], fun β => (nth 2 (β 8)), .read⟩,
            ⟨13, fun β => [(β 8)], fun β => (nth 3 (β 8)), .read⟩,
            ⟨14, fun _ => [], fun β => (β 14), .eff⟩,
            ⟨15, fun β => [(β 14), (nth 0 (β 8))], fun _ => undef, .put⟩])
          (vs := [([], fun _ => (m.rv rc cp)), ([], fun _ => (.slice (some ⟨pa, off, none⟩) l.length cap)), ([], fun _ => .pointer (some ⟨rb, 0, none⟩)), ([], fun _ => .int .i64 (rr.at_ : Int)), ([], fun _ => .pointer (some ⟨pa, (off + rr.at_ * 6), none⟩)), ([], fun _ => z.v), ([], fun _ => .pointer (some ⟨rb, 1, none⟩)), ([], fun _ => .int .i64 rr.told), ([8], fun l => l.headD undef), ([8], fun l => l.headD undef), ([8], fun l => nth 0 (l.headD undef)), ([8], fun l => nth 1 (l.headD undef)), ([8], fun l => nth 2 (l.headD undef)), ([8], fun l => nth 3 (l.headD undef)), ([14], fun l => l.headD undef), ([], fun _ => undef), ([8], fun l => nth 1 (l.headD undef)), ([8], fun l => nth 2 (l.headD undef)), ([8], fun l => nth 3 (l.headD undef))])
          (by kernel_rfl) ⟨by kernel_rfl, ⟨FreeV.d_load _ rfl rfl (fun β bs w h hd => (HA.out.var.below (rmid_below h)).load),
            FreeV.d_load _ rfl rfl (fun β bs w h hd => load_3 (((rmid_below h).cell HA.out.orb.lt).trans c0)),
            FreeV.d_at _ rfl rfl (fun _ w => at_22 pa off l.length cap rr.at_ hlt w),
            FreeV.d_load _ rfl rfl (fun β bs w h hd => load_41 (HZ.out.1.below (rmid_below h) HZ.out.2.1)),
            FreeV.d_load _ rfl rfl (fun β bs w h hd => load_3 (((rmid_below h).cell HA.out.orb.lt).trans c1)),
            FreeV.d_get3 _ rfl rfl enter_14 0 rfl (fun β bs w h hd => rmid_one (by decide) HA.out.rat HO.out HZ.out.2.2 h ((hd 2 15 rfl).2 (.inl (by kernel_rfl)))),
            FreeV.d_extract _ rfl rfl (fun β bs w h hd => rmid_nth h ((hd 0 8 rfl).1 (by kernel_rfl)) (by decide)),
            FreeV.d_extract _ rfl rfl (fun β bs w h hd => rmid_nth h ((hd 0 8 rfl).1 (by kernel_rfl)) (by decide)),
            FreeV.d_extract _ rfl rfl (fun β bs w h hd => rmid_nth h ((hd 0 8 rfl).1 (by kernel_rfl)) (by decide)),
            FreeV.d_extract _ rfl rfl (fun β bs w h hd => rmid_nth h ((hd 0 8 rfl).1 (by kernel_rfl)) (by decide)),
            FreeV.d_alloc _ rfl rfl 1 rfl (fun β bs w h hd => rmid_alloc (by decide) h ((hd 2 15 rfl).2 (.inl (by kernel_rfl)))),
            FreeV.d_store _ rfl rfl 2 rfl (fun β bs w h hd => rmid_store h ((hd 0 8 rfl).1 (by kernel_rfl)) ((hd 1 14 rfl).1 (by kernel_rfl))),
            trivial⟩,
            fun β => by kernel_rfl, fun β => by kernel_rfl, by kernel_rfl, fun β => by kernel_rfl, by kernel_rfl⟩ rmid_start (fun β => Free.from_ 77 [(m.rv rc cp), (.slice (some ⟨pa, off, none⟩) l.length cap), .pointer (some ⟨rb, 0, none⟩), .int .i64 (rr.at_ : Int), .pointer (some ⟨pa, (off + rr.at_ * 6), none⟩), z.v, .pointer (some ⟨rb, 1, none⟩), .int .i64 rr.told, (β 8)] ++ [(76, (β 8)), (86, (nth 0 (β 8))), (87, (nth 1 (β 8))), (88, (nth 2 (β 8))), (89, (nth 3 (β 8))), (13, (β 14)), (14, (nth 1 (β 8))), (15, (nth 2 (β 8))), (16, (nth 3 (β 8)))]) (fun β => by kernel_rfl) ?_
        intro β w6 h6
        obtain ⟨c', cp', g, b6, e8, rA, hcc, e14, g1, g2, g3, hgr⟩ := rmid_end h6
        simp only [e8, e14, T4, nth_40, nth_41, nth_42, nth_43]
        clear h6 e8 e14
        rw [FreeX.puts_append, Free.puts_from _ _ _ (Nat.le_of_ble_eq_true rfl)]
        simp only [List.take_succ_cons, List.take_zero, List.drop_succ_cons, List.drop_zero, List.cons_append, List.nil_append, List.length_cons, List.length_nil, Nat.reduceAdd]
        unfold Free.puts
        simp only [List.foldl_cons, List.foldl_nil]
        have HMN : Hid (mnext l rr m = (rr.next l (z.res rr.told ((z.q rr.told).on m).2), ((z.q rr.told).on m).1)) := mnext_is HE.out m
        generalize ((z.q rr.told).on m).1 = m9 at *
        generalize z.res rr.told ((z.q rr.told).on m).2 = x9 at *
        obtain ⟨y0, y1, y2, y3⟩ := (⟨hgr 0 _ rfl, hgr 1 _ rfl, hgr 2 _ rfl, hgr 3 _ rfl⟩ : _ ∧ _ ∧ _ ∧ _)
        simp only [Nat.zero_add, Nat.add_zero] at y0 y1 y2 y3
        have v6 := (HA.out.var.below b6).cells
        obtain ⟨v0, v1, v2, v3⟩ := v6
        have vf := (HA.out.var.below b6).fz
        obtain ⟨w7, hw7⟩ : ∃ W, W = four w6 vb (.slice (some ⟨c', 0, none⟩) m9.cells.length cp') m9.count m9.live m9.stale := ⟨_, rfl⟩
        have hA7 := HA.out.ref b6 rA hcc cp'
        rw [← hw7] at hA7
        have hnx := next_any w7 rr (some ⟨pa, off, none⟩) cap l x9 (HL.out.below hA7.team.has.below) hlt hl hs40
        obtain ⟨d0, d1, d2, d3, d4⟩ := hA7.rn
        have HA7 := Lib.hid hA7
        unfold four at hw7
        have HW7 := Lib.hid hw7.symm
        clear hA7 hw7 b6 rA hcc hgr c0 c1 c2' c3 c4 g1 g2 g3
        go_wp2_with (first | rw [HW7.out] | fail)
        refine hnx.mono ?_
        rintro e w8 ⟨rfl, b8⟩
        clear hnx
        have hA8 := HA7.out.later b8
        obtain ⟨r9, hr9⟩ : ∃ r', r' = rr.next l x9 := ⟨_, rfl⟩
        rw [← hr9] at HMN ⊢
        have ev : r9.v = .agg #[.int .i64 (r9.at_ : Int), .int .i64 r9.told, .int .i64 r9.sum, .int .i64 r9.last, .int .i64 (r9.steps : Int)] := rfl
        rw [ev]
        obtain ⟨d0, d1, d2, d3, d4⟩ := hA8.rn
        have f8 := hA8.fz
        obtain ⟨w9, hw9⟩ : ∃ W, W = rput w8 rb r9 := ⟨_, rfl⟩
        have hA9 := hA8.run r9
        rw [← hw9] at hA9
        have HA9 := Lib.hid hA9
        have hat9 := next_at rr l x9 hlt
        have hst9 : r9.steps = rr.steps + 1 := by rw [hr9]; rfl
        rw [← hr9] at hat9
        obtain ⟨D, hD⟩ : ∃ D, D = decide (l.length ≤ r9.at_) := ⟨_, rfl⟩
        have HD : Hid (decide ((l.length : Int) ≤ (r9.at_ : Int)) = D) := by
          rw [hD]
          exact decide_eq_decide.2 (by omega)
        have HSI : Hid (((r9.steps : Int) != (i : Int) + 1) = false) := by
          unfold Hid
          rw [hst9, HT1.out.1]
          simp
        have HQ9 : Hid (RnAt w9.drew rb r9) := hA9.rn
        have hxb2 := HT1.out.2
        have HST : Hid (∀ W, Below w9.heap.size w9 W → Calls Tryd.prog 16 #[.pointer (some ⟨xb, 0, none⟩)] W fun e w' => e = .returned (.bool D) ∧ AP w b c r b2 c2 r2 vb rb lb xb (some ⟨pa, off, none⟩) cap l m0 (((i : Int) + 1) * 42) m9 r9 c' cp' D w') := by
          intro W hW
          have hB := HA9.out.later hW
          have ho := hB.olb
          have hox := ho.x 0 x rfl
          rw [← hxb2]
          refine (lstep_any hB.mac hB.lm HT.out (by omega) HL.out HK.out hl hB.lc ⟨ho.m.1, ho.m.2.1, ho.m.2.2, hox.1, fun e => hox.2 e.symm⟩).mono ?_
          rintro e w' ⟨x', hx', rfl, hm, hlm, hf, hk, hr⟩
          rw [HMN.out] at hm hlm hf ⊢
          refine ⟨by rw [hD], x', ?_, hx', by rw [hf, hD]⟩
          exact (hB.step hx' hm hlm hk hr).less (by omega)
        unfold rput at hw9
        have HW9 := Lib.hid hw9.symm
        have HR9 := Lib.hid (⟨hD, hat9, hst9⟩ : _ ∧ _ ∧ _)
        clear hA8 hA9 hw9 b8 hr9 hat9 hst9 hD hxb2
        go_wp2_with (first | rw [HW9.out] | fail)
        refine FreeV.region_puts (S := SMid2 1 (fun W => RnAt W rb r9) (AP w b c r b2 c2 r2 vb rb lb xb (some ⟨pa, off, none⟩) cap l m0 (((i : Int) + 1) * 42) m9 r9 c' cp' D) (.bool D) w9) (effs := [1])
          (tab := [⟨1, fun _ => [.func (.func 16) #[] #[], .pointer (some ⟨xb, 0, none⟩)], fun β => (β 1), .get⟩,
            ⟨3, fun _ => [.pointer (some ⟨rb, 0, none⟩)], fun _ => .int .i64 (r9.at_ : Int), .read⟩,
            ⟨5, fun _ => [(.slice (some ⟨pa, off, none⟩) l.length cap)], fun _ => .int .i64 (l.length : Int), .pure⟩,
            ⟨6, fun _ => [.int .i64 (r9.at_ : Int), .int .i64 (l.length : Int)], fun _ => .bool D, .pure⟩,
            ⟨7, fun β => [(β 1), .bool D], fun _ => .bool false, .read⟩,
            ⟨10, fun _ => [.func (.func 12) #[] #[], .pointer (some ⟨xb, 0, none⟩)], fun _ => .int .i64 (r9.steps : Int), .ask⟩,
            ⟨12, fun _ => [.int .i64 (i : Int), .int .i64 1], fun _ => .int .i64 ((i : Int) + 1), .pure⟩,
            ⟨13, fun _ => [.int .i64 (r9.steps : Int), .int .i64 ((i : Int) + 1)], fun _ => .bool false, .pure⟩,
            ⟨17, fun _ => [.func (.func 17) #[] #[], .pointer (some ⟨b, 0, none⟩)], fun _ => .int .i64 m9.count, .ask⟩,
            ⟨19, fun _ => [.pointer (some ⟨vb, 1, none⟩)], fun _ => .int .i64 m9.count, .read⟩,
            ⟨20, fun _ => [.int .i64 m9.count, .int .i64 m9.count], fun _ => .bool false, .pure⟩,
            ⟨24, fun _ => [.func (.func 18) #[] #[], .pointer (some ⟨b, 0, none⟩)], fun _ => .int .i64 m9.live, .ask⟩,
            ⟨26, fun _ => [.pointer (some ⟨vb, 2, none⟩)], fun _ => .int .i64 m9.live, .read⟩,
            ⟨27, fun _ => [.int .i64 m9.live, .int .i64 m9.live], fun _ => .bool false, .pure⟩,
            ⟨31, fun _ => [.func (.func 13) #[] #[], .pointer (some ⟨xb, 0, none⟩)], fun _ => .int .i64 (r9.steps : Int), .ask⟩,
            ⟨33, fun _ => [.pointer (some ⟨rb, 4, none⟩)], fun _ => .int .i64 (r9.steps : Int), .read⟩,
            ⟨34, fun _ => [.int .i64 (r9.steps : Int), .int .i64 (r9.steps : Int)], fun _ => .bool false, .pure⟩,
            ⟨38, fun _ => [.func (.func 11) #[] #[], .pointer (some ⟨xb, 0, none⟩)], fun _ => .bool D, .ask⟩,
            ⟨40, fun _ => [.pointer (some ⟨rb, 0, none⟩)], fun _ => .int .i64 (r9.at_ : Int), .read⟩,
            ⟨42, fun _ => [(.slice (some ⟨pa, off, none⟩) l.length cap)], fun _ => .int .i64 (l.length : Int), .pure⟩,
            ⟨43, fun _ => [.int .i64 (r9.at_ : Int), .int .i64 (l.length : Int)], fun _ => .bool D, .pure⟩,
            ⟨44, fun _ => [.bool D, .bool D], fun _ => .bool false, .pure⟩])
          (vs := [([], fun _ => .pointer (some ⟨xb, 0, none⟩)), ([1], fun l => l.headD undef), ([], fun _ => .pointer (some ⟨rb, 0, none⟩)), ([], fun _ => .int .i64 (r9.at_ : Int)), ([], fun _ => (.slice (some ⟨pa, off, none⟩) l.length cap)), ([], fun _ => .int .i64 (l.length : Int)), ([], fun _ => .bool D), ([], fun _ => .bool false), ([], fun _ => .bool false), ([], fun _ => .pointer (some ⟨xb, 0, none⟩)), ([], fun _ => .int .i64 (r9.steps : Int)), ([], fun _ => .int .i64 (i : Int)), ([], fun _ => .int .i64 ((i : Int) + 1)), ([], fun _ => .bool false), ([], fun _ => .bool false), ([], fun _ => .bool false), ([], fun _ => .pointer (some ⟨b, 0, none⟩)), ([], fun _ => .int .i64 m9.count), ([], fun _ => .pointer (some ⟨vb, 1, none⟩)), ([], fun _ => .int .i64 m9.count), ([], fun _ => .bool false), ([], fun _ => .bool false), ([], fun _ => .bool false), ([], fun _ => .pointer (some ⟨b, 0, none⟩)), ([], fun _ => .int .i64 m9.live), ([], fun _ => .pointer (some ⟨vb, 2, none⟩)), ([], fun _ => .int .i64 m9.live), ([], fun _ => .bool false), ([], fun _ => .bool false), ([], fun _ => .bool false), ([], fun _ => .pointer (some ⟨xb, 0, none⟩)), ([], fun _ => .int .i64 (r9.steps : Int)), ([], fun _ => .pointer (some ⟨rb, 4, none⟩)), ([], fun _ => .int .i64 (r9.steps : Int)), ([], fun _ => .bool false), ([], fun _ => .bool false), ([], fun _ => .bool false), ([], fun _ => .pointer (some ⟨xb, 0, none⟩)), ([], fun _ => .bool D), ([], fun _ => .pointer (some ⟨rb, 0, none⟩)), ([], fun _ => .int .i64 (r9.at_ : Int)), ([], fun _ => (.slice (some ⟨pa, off, none⟩) l.length cap)), ([], fun _ => .int .i64 (l.length : Int)), ([], fun _ => .bool D), ([], fun _ => .bool false), ([], fun _ => .bool false)])
          (by kernel_rfl) ⟨by kernel_rfl, ⟨FreeV.d_get1 _ rfl rfl enter_16 0 rfl (fun β bs w h hd => smid2_step HST.out (fun _ hp => hp.rn) h ((hd 0 1 rfl).2 (.inr rfl))),
            FreeV.d_load _ rfl rfl (fun β bs w h hd => load_3 h.1.1),
            FreeV.d_len _ rfl rfl (fun _ => len_22 _ _ _),
            FreeV.d_bin _ rfl rfl (fun _ xo yo w => cmp_geq3 xo yo w HD.out),
            FreeV.d_binr _ rfl rfl (fun β bs xo yo w h hd => neq4_read (h.2.2 ((hd 0 1 rfl).1 (by kernel_rfl))).1 xo yo w),
            FreeV.d_ask1 _ rfl rfl enter_12 (fun β bs w h hd => (AP.steps (h.2.2 ((hd 0 1 rfl).1 (by kernel_rfl))).2).mono (fun e w2 ⟨e1, e2⟩ => ⟨e1, e2 ▸ h⟩)),
            FreeV.d_bin _ rfl rfl (fun _ xo yo w => cmp_add3 xo yo w ⟨rfl, by omega, by omega⟩),
            FreeV.d_bin _ rfl rfl (fun _ xo yo w => cmp_neq3 xo yo w HSI.out),
            FreeV.d_ask1 _ rfl rfl enter_17 (fun β bs w h hd => (AP.count (h.2.2 ((hd 0 1 rfl).1 (by kernel_rfl))).2).mono (fun e w2 ⟨e1, e2⟩ => ⟨e1, e2 ▸ h⟩)),
            FreeV.d_load _ rfl rfl (fun β bs w h hd => load_3 ((h.2.2 ((hd 0 1 rfl).1 (by kernel_rfl))).2).var.cells.2.1),
            FreeV.d_bin _ rfl rfl (fun _ xo yo w => cmp_neq3 xo yo w (by simp)),
            FreeV.d_ask1 _ rfl rfl enter_18 (fun β bs w h hd => (AP.live (h.2.2 ((hd 0 1 rfl).1 (by kernel_rfl))).2).mono (fun e w2 ⟨e1, e2⟩ => ⟨e1, e2 ▸ h⟩)),
            FreeV.d_load _ rfl rfl (fun β bs w h hd => load_3 ((h.2.2 ((hd 0 1 rfl).1 (by kernel_rfl))).2).var.cells.2.2.1),
            FreeV.d_bin _ rfl rfl (fun _ xo yo w => cmp_neq3 xo yo w (by simp)),
            FreeV.d_ask1 _ rfl rfl enter_13 (fun β bs w h hd => (AP.noted (h.2.2 ((hd 0 1 rfl).1 (by kernel_rfl))).2).mono (fun e w2 ⟨e1, e2⟩ => ⟨e1, e2 ▸ h⟩)),
            FreeV.d_load _ rfl rfl (fun β bs w h hd => load_3 h.1.2.2.2.2),
            FreeV.d_bin _ rfl rfl (fun _ xo yo w => cmp_neq3 xo yo w (by simp)),
            FreeV.d_ask1 _ rfl rfl enter_11 (fun β bs w h hd => (AP.ended (h.2.2 ((hd 0 1 rfl).1 (by kernel_rfl))).2).mono (fun e w2 ⟨e1, e2⟩ => ⟨e1, e2 ▸ h⟩)),
            FreeV.d_load _ rfl rfl (fun β bs w h hd => load_3 h.1.1),
            FreeV.d_len _ rfl rfl (fun _ => len_22 _ _ _),
            FreeV.d_bin _ rfl rfl (fun _ xo yo w => cmp_geq3 xo yo w HD.out),
            FreeV.d_bin _ rfl rfl (fun _ xo yo w => cmp_neq4 xo yo w (by simp)),
            trivial⟩,
            fun β => by kernel_rfl, fun β => by kernel_rfl, by kernel_rfl, fun β => by kernel_rfl, by kernel_rfl⟩ (smid2_start HQ9.out) (fun β => Free.from_ 97 [.pointer (some ⟨xb, 0, none⟩), (β 1), .pointer (some ⟨rb, 0, none⟩), .int .i64 (r9.at_ : Int), (.slice (some ⟨pa, off, none⟩) l.length cap), .int .i64 (l.length : Int), .bool D, .bool false, .bool false, .pointer (some ⟨xb, 0, none⟩), .int .i64 (r9.steps : Int), .int .i64 (i : Int), .int .i64 ((i : Int) + 1), .bool false, .bool false, .bool false, .pointer (some ⟨b, 0, none⟩), .int .i64 m9.count, .pointer (some ⟨vb, 1, none⟩), .int .i64 m9.count, .bool false, .bool false, .bool false, .pointer (some ⟨b, 0, none⟩), .int .i64 m9.live, .pointer (some ⟨vb, 2, none⟩), .int .i64 m9.live, .bool false, .bool false, .bool false, .pointer (some ⟨xb, 0, none⟩), .int .i64 (r9.steps : Int), .pointer (some ⟨rb, 4, none⟩), .int .i64 (r9.steps : Int), .bool false, .bool false, .bool false, .pointer (some ⟨xb, 0, none⟩), .bool D, .pointer (some ⟨rb, 0, none⟩), .int .i64 (r9.at_ : Int), (.slice (some ⟨pa, off, none⟩) l.length cap), .int .i64 (l.length : Int), .bool D, .bool false, .bool false]) (fun β => by kernel_rfl) ?_
        intro β w10 h10
        have HP10 := Lib.hid (h10.2.2 rfl).2
        clear h10
        rw [Free.puts_from _ _ _ (Nat.le_of_ble_eq_true rfl)]
        simp only [List.take_succ_cons, List.take_zero, List.drop_succ_cons, List.drop_zero, List.cons_append, List.nil_append, List.length_cons, List.length_nil, Nat.reduceAdd]
        obtain ⟨x2, hx2, hxb2, hf2⟩ := HP10.out
        have HH : Hid (AHead w b c r b2 c2 r2 vb rb lb xb (some ⟨pa, off, none⟩) cap l m0 (i + 1) m9 r9 x2 c' cp' w10) := by
          obtain ⟨em, er, _, _, _, _, _, hgo, _⟩ := hR.out
          obtain ⟨hD, hat9, hst9⟩ := HR9.out
          have hsq : seqR l m0 (i + 1) = (r9, m9) := by
            show mnext l (seqR l m0 i).1 (seqR l m0 i).2 = _
            rw [← em, ← er, HMN.out]
          refine ⟨by rw [hsq], by rw [hsq], by rw [show (((i + 1 : Nat) : Int)) = (i : Int) + 1 by omega]; exact hx2, hxb2, by rw [hst9, HT1.out.1], hat9.2, by omega, fun j hj => ?_, ?_⟩
          · by_cases e : j = i
            · subst e; rw [← er]; exact hlt
            · exact hgo j (by omega)
          · rw [hf2, hD]
            exact decide_eq_decide.2 ⟨fun h => ⟨fun e => by rw [e] at hlt; simp at hlt, h⟩, fun h => h.2⟩
        clear HP10 HA9 HA7 HST HMN
        go_wp2_with fail
        clear HR9 HD HSI
        refine ⟨?_, ?measure⟩
        (repeat apply Exists.intro)
        refine ⟨?rel, rfl⟩
        case rel => exact ⟨i + 1, m9, r9, x2, c', cp', by go_num, HH⟩
        case measure => simp [intOf]; omega
      · have i1 : ¬ (rr.at_ : Int) < (l.length : Int) := by omega
        have HE2 : Hid (m = (seqR l m0 i).2 ∧ rr = (seqR l m0 i).1 ∧ ∀ j, j < i → (seqR l m0 j).1.at_ < l.length) := ⟨em, er, hgo⟩
        have HG9 : Hid (l.length ≤ rr.at_) := by unfold Hid; omega
        clear em er hgo
        by_cases e0 : (l.length : Int) = 0
        · have hst : Calls Tryd.prog 16 #[.pointer (some ⟨xb, 0, none⟩)] wr fun e w' => e = .returned (.bool true) ∧ ∃ x3, Al w b c r b2 c2 r2 vb rb lb ad cap l m0 (i * 42 + 42) m rr m rr x3 rc cp w' ∧ x3.xb = xb ∧ x3.fin = true := by
            have ho := hA.olb
            have hox := ho.x 0 x rfl
            have hg9 := HG9.out
            rw [← HT1.out.2]
            refine (lstep_any hA.mac hA.lm HT.out (by omega) HL.out HK.out hl hA.lc ⟨ho.m.1, ho.m.2.1, ho.m.2.2, hox.1, fun e => hox.2 e.symm⟩).mono ?_
            rintro e w' ⟨x', hx', rfl, hm, hlm, hf, hk, hr⟩
            rw [mnext_end hg9] at hm hlm hf ⊢
            exact ⟨by simp [hg9], x', hA.step hx' hm hlm hk hr, hx', by rw [hf]; simp [hg9]⟩
          clear hA hfin
          go_wp2_with fail
          refine hst.mono ?_
          rintro e wa ⟨rfl, x3, hA3, hx3, hf3⟩
          clear hst HA c0 c1 c2' c3 c4
          have hty : Calls Tryd.prog 19 #[.pointer (some ⟨xb, 0, none⟩)] wa fun e w' => e = .returned (.tuple #[rr.v, .bool true]) ∧ Below wa.heap.size wa w' := told_yes rr (fun w1 hb => by
            have hB := hA3.later hb
            have := out_any hB.mac
            rwa [hx3, (hB.lm.fin hf3).2] at this)
          have ev : rr.v = .agg #[.int .i64 (rr.at_ : Int), .int .i64 rr.told, .int .i64 rr.sum, .int .i64 rr.last, .int .i64 (rr.steps : Int)] := rfl
          rw [ev] at hty
          have HA3 := Lib.hid (⟨hA3, hx3, hf3⟩ : _ ∧ _ ∧ _)
          clear hA3 hx3 hf3 ev
          go_wp2_with fail
          refine hty.mono ?_
          rintro e wb ⟨rfl, bb⟩
          clear hty
          obtain ⟨wc, hwc⟩ : ∃ W, W = wb.alloc (.cells #[.int .i64 (rr.at_ : Int), .int .i64 rr.told, .int .i64 rr.sum, .int .i64 rr.last, .int .i64 (rr.steps : Int)] 32) := ⟨_, rfl⟩
          obtain ⟨ga, hga⟩ : ∃ q, q = wb.heap.size := ⟨_, rfl⟩
          have HWC := Lib.hid (⟨hwc.symm, hga.symm⟩ : _ ∧ _)
          have hda := does_any ad l.length cap wc
          have HBB := Lib.hid bb
          clear hwc hga bb
          go_wp2_with fail
          rw [HWC.out.1, HWC.out.2]
          refine hda.mono ?_
          rintro e wd ⟨rfl, hwd⟩
          have hbc : Below wb.heap.size wb wc := by rw [← HWC.out.1]; exact (Below.refl _ _).alloc (Nat.le_refl _) _
          have hcd : Below wc.heap.size wc wd := by rw [hwd]; exact (Below.refl _ _).alloc (Nat.le_refl _) _
          have hzc : wc.heap.size = wb.heap.size + 1 := by rw [← HWC.out.1]; simp
          have hsb := HBB.out.size
          have had : Below wa.heap.size wa wd := (HBB.out.trans (hbc.mono hsb)).trans (hcd.mono (by omega))
          have hA4 := HA3.out.1.later had
          have hge : ga = wb.heap.size := HWC.out.2.symm
          have hgl : ga < wc.heap.size := by omega
          have hra : RnAt wc ga rr := by
            rw [← HWC.out.1, ← HWC.out.2]
            have e : ∀ j, (wb.alloc (.cells rr.row.toArray 32)).cell? ⟨wb.heap.size, j, none⟩ = rr.row.toArray[j]? := fun j => World.cell?_alloc_new _ _ _ _
            exact ⟨e 0, e 1, e 2, e 3, e 4⟩
          have hrd : RnAt wd ga rr := hra.same (hcd.block ga hgl)
          have hlc : wd.cell? ⟨wc.heap.size, 0, none⟩ = some (.slice ad l.length cap) := by rw [hwd, World.cell?_alloc_new]; rfl
          have l1 := (HA3.out.1.off b2 (by simp)).lt
          have l2 := (HA3.out.1.off c2 (by simp)).lt
          have l3 := (HA3.out.1.off r2 (by simp)).lt
          have hdo := do_any hA4.o HT.out (by decide) HL.out HK.out hl hlc ⟨by omega, by omega, by omega⟩
          have HD4 := Lib.hid (⟨hA4, hrd, Nat.lt_of_lt_of_le hgl hcd.size, (⟨by omega, by omega, by omega⟩ : ga ≠ b2 ∧ ga ≠ c2 ∧ ga ≠ r2)⟩ : _ ∧ _ ∧ _ ∧ _)
          clear hda hwd hbc hcd hzc hsb had hA4 hge hgl hra hrd hlc l1 l2 l3
          go_wp2_with fail
          refine hdo.mono ?_
          rintro e we ⟨⟨k, hk, rfl, hH⟩, hK⟩
          obtain ⟨em, er, hgo⟩ := HE2.out
          obtain rfl : i = k := EndsAt.one ⟨by rw [← er]; exact HG9.out, hgo⟩ hk
          rw [← er]
          rw [← em] at hH
          obtain ⟨hA4, hrd, hgl, hgn⟩ := HD4.out
          have hT5 := hA4.team.kept hK ⟨HB2.out.1, HB2.out.2.1, HB2.out.2.2⟩ (fun z hz => hA4.off z (by rcases hz with e | e | e <;> simp [e]))
          have hr5 : RnAt we rb rr := hA4.rn.same (hK.block rb hA4.orb.lt (hA4.nv b2 (by simp)).2.symm (hA4.nv c2 (by simp)).2.symm (hA4.nv r2 (by simp)).2.symm)
          have hg5 : RnAt we ga rr := hrd.same (hK.block ga hgl hgn.1 hgn.2.1 hgn.2.2)
          obtain ⟨wf, hwf⟩ : ∃ W, W = we.alloc (.cells #[.int .i64 (rr.at_ : Int), .int .i64 rr.told, .int .i64 rr.sum, .int .i64 rr.last, .int .i64 (rr.steps : Int)] 32) := ⟨_, rfl⟩
          obtain ⟨gb, hgb⟩ : ∃ q, q = we.heap.size := ⟨_, rfl⟩
          have hef : Below we.heap.size we wf := by rw [hwf]; exact (Below.refl _ _).alloc (Nat.le_refl _) _
          have hT6 := hT5.later hef
          have hr6 := hr5.same (hef.block rb (Nat.lt_of_lt_of_le hA4.orb.lt hK.size))
          have hg6 := hg5.same (hef.block ga (Nat.lt_of_lt_of_le hgl hK.size))
          have hH6 := hH.later hef
          have hk6 : RnAt wf gb rr := by
            rw [hwf, hgb]
            have e : ∀ j, (we.alloc (.cells rr.row.toArray 32)).cell? ⟨we.heap.size, j, none⟩ = rr.row.toArray[j]? := fun j => World.cell?_alloc_new _ _ _ _
            exact ⟨e 0, e 1, e 2, e 3, e 4⟩
          have hm6 := hT6.mac 0 _ rfl
          rw [HA3.out.2.2, HA3.out.2.1] at hm6
          have hsd := step_done hm6
          have hc1 := count_any wf b c r m hT6.has.at_
          have hc2 := count_any wf b2 c2 r2 m hH6.at_
          have HFB := Lib.hid hT6.has.below
          have HWF := Lib.hid (⟨hwf.symm, hgb.symm⟩ : _ ∧ _)
          obtain ⟨p0, p1, p2, p3, p4⟩ := hr6
          obtain ⟨q0, q1, q2, q3, q4⟩ := hg6
          obtain ⟨s0, s1, s2, s3, s4⟩ := hk6
          have ev : rr.v = .agg #[.int .i64 (rr.at_ : Int), .int .i64 rr.told, .int .i64 rr.sum, .int .i64 rr.last, .int .i64 (rr.steps : Int)] := rfl
          rw [ev]
          have a3 := as32_yes
          have hq32 := eq32_any _ ⟨_, _, _, _, _, ev⟩
          rw [ev] at hq32
          clear hdo HD4 hk hH hK em er hgo hA4 hrd hgl hgn hT5 hr5 hg5 hwf hgb hef hT6 hH6 hm6 ev HBB HWC
          go_wp2_with fail
          rw [HWF.out.1, HWF.out.2]
          refine hc1.mono ?_
          rintro e w9 ⟨rfl, rfl⟩
          go_wp2_with fail
          refine hsd.mono ?_
          rintro e w9 ⟨rfl, rfl⟩
          go_wp2_with fail
          refine hc1.mono ?_
          rintro e w9 ⟨rfl, rfl⟩
          go_wp2_with fail
          refine hc2.mono ?_
          rintro e w9 ⟨rfl, rfl⟩
          clear hsd hc1 hc2
          go_wp2
          go_ret
          exact ⟨rfl, HFB.out⟩
        · have hf3 : x.fin = true := by
            have := HG9.out
            rw [hfin, decide_eq_true_eq]
            exact ⟨fun e => e0 (by rw [e]; rfl), this⟩
          have hx3 := HT1.out.2
          have hA3 := hA
          have e1 : ¬ l = [] := fun e => e0 (by rw [e]; rfl)
          have e2 : (l.length == 0) = false := by simpa using e1
          have e3 : ((l.length : Int) == 0) = false := by simpa using e1
          have e4 : decide ((l.length : Int) = 0) = false := by simpa using e1
          clear hA hfin
          have hty : Calls Tryd.prog 19 #[.pointer (some ⟨xb, 0, none⟩)] wr fun e w' => e = .returned (.tuple #[rr.v, .bool true]) ∧ Below wr.heap.size wr w' := told_yes rr (fun w1 hb => by
            have hB := hA3.later hb
            have := out_any hB.mac
            rwa [hx3, (hB.lm.fin hf3).2] at this)
          have ev : rr.v = .agg #[.int .i64 (rr.at_ : Int), .int .i64 rr.told, .int .i64 rr.sum, .int .i64 rr.last, .int .i64 (rr.steps : Int)] := rfl
          rw [ev] at hty
          have HA3 := Lib.hid (⟨hA3, hx3, hf3⟩ : _ ∧ _ ∧ _)
          clear hA3 hx3 hf3 ev
          go_wp2_with fail
          refine hty.mono ?_
          rintro e wb ⟨rfl, bb⟩
          clear hty
          obtain ⟨wc, hwc⟩ : ∃ W, W = wb.alloc (.cells #[.int .i64 (rr.at_ : Int), .int .i64 rr.told, .int .i64 rr.sum, .int .i64 rr.last, .int .i64 (rr.steps : Int)] 32) := ⟨_, rfl⟩
          obtain ⟨ga, hga⟩ : ∃ q, q = wb.heap.size := ⟨_, rfl⟩
          have HWC := Lib.hid (⟨hwc.symm, hga.symm⟩ : _ ∧ _)
          have hda := does_any ad l.length cap wc
          have HBB := Lib.hid bb
          clear hwc hga bb
          go_wp2_with fail
          rw [HWC.out.1, HWC.out.2]
          refine hda.mono ?_
          rintro e wd ⟨rfl, hwd⟩
          have hbc : Below wb.heap.size wb wc := by rw [← HWC.out.1]; exact (Below.refl _ _).alloc (Nat.le_refl _) _
          have hcd : Below wc.heap.size wc wd := by rw [hwd]; exact (Below.refl _ _).alloc (Nat.le_refl _) _
          have hzc : wc.heap.size = wb.heap.size + 1 := by rw [← HWC.out.1]; simp
          have hsb := HBB.out.size
          have had : Below wr.heap.size wr wd := (HBB.out.trans (hbc.mono hsb)).trans (hcd.mono (by omega))
          have hA4 := HA3.out.1.later had
          have hge : ga = wb.heap.size := HWC.out.2.symm
          have hgl : ga < wc.heap.size := by omega
          have hra : RnAt wc ga rr := by
            rw [← HWC.out.1, ← HWC.out.2]
            have e : ∀ j, (wb.alloc (.cells rr.row.toArray 32)).cell? ⟨wb.heap.size, j, none⟩ = rr.row.toArray[j]? := fun j => World.cell?_alloc_new _ _ _ _
            exact ⟨e 0, e 1, e 2, e 3, e 4⟩
          have hrd : RnAt wd ga rr := hra.same (hcd.block ga hgl)
          have hlc : wd.cell? ⟨wc.heap.size, 0, none⟩ = some (.slice ad l.length cap) := by rw [hwd, World.cell?_alloc_new]; rfl
          have l1 := (HA3.out.1.off b2 (by simp)).lt
          have l2 := (HA3.out.1.off c2 (by simp)).lt
          have l3 := (HA3.out.1.off r2 (by simp)).lt
          have hdo := do_any hA4.o HT.out (by decide) HL.out HK.out hl hlc ⟨by omega, by omega, by omega⟩
          have HD4 := Lib.hid (⟨hA4, hrd, Nat.lt_of_lt_of_le hgl hcd.size, (⟨by omega, by omega, by omega⟩ : ga ≠ b2 ∧ ga ≠ c2 ∧ ga ≠ r2)⟩ : _ ∧ _ ∧ _ ∧ _)
          clear hda hwd hbc hcd hzc hsb had hA4 hge hgl hra hrd hlc l1 l2 l3
          go_wp2_with fail
          refine hdo.mono ?_
          rintro e we ⟨⟨k, hk, rfl, hH⟩, hK⟩
          obtain ⟨em, er, hgo⟩ := HE2.out
          obtain rfl : i = k := EndsAt.one ⟨by rw [← er]; exact HG9.out, hgo⟩ hk
          rw [← er]
          rw [← em] at hH
          obtain ⟨hA4, hrd, hgl, hgn⟩ := HD4.out
          have hT5 := hA4.team.kept hK ⟨HB2.out.1, HB2.out.2.1, HB2.out.2.2⟩ (fun z hz => hA4.off z (by rcases hz with e | e | e <;> simp [e]))
          have hr5 : RnAt we rb rr := hA4.rn.same (hK.block rb hA4.orb.lt (hA4.nv b2 (by simp)).2.symm (hA4.nv c2 (by simp)).2.symm (hA4.nv r2 (by simp)).2.symm)
          have hg5 : RnAt we ga rr := hrd.same (hK.block ga hgl hgn.1 hgn.2.1 hgn.2.2)
          obtain ⟨wf, hwf⟩ : ∃ W, W = we.alloc (.cells #[.int .i64 (rr.at_ : Int), .int .i64 rr.told, .int .i64 rr.sum, .int .i64 rr.last, .int .i64 (rr.steps : Int)] 32) := ⟨_, rfl⟩
          obtain ⟨gb, hgb⟩ : ∃ q, q = we.heap.size := ⟨_, rfl⟩
          have hef : Below we.heap.size we wf := by rw [hwf]; exact (Below.refl _ _).alloc (Nat.le_refl _) _
          have hT6 := hT5.later hef
          have hr6 := hr5.same (hef.block rb (Nat.lt_of_lt_of_le hA4.orb.lt hK.size))
          have hg6 := hg5.same (hef.block ga (Nat.lt_of_lt_of_le hgl hK.size))
          have hH6 := hH.later hef
          have hk6 : RnAt wf gb rr := by
            rw [hwf, hgb]
            have e : ∀ j, (we.alloc (.cells rr.row.toArray 32)).cell? ⟨we.heap.size, j, none⟩ = rr.row.toArray[j]? := fun j => World.cell?_alloc_new _ _ _ _
            exact ⟨e 0, e 1, e 2, e 3, e 4⟩
          have hm6 := hT6.mac 0 _ rfl
          rw [HA3.out.2.2, HA3.out.2.1] at hm6
          have hsd := step_done hm6
          have hc1 := count_any wf b c r m hT6.has.at_
          have hc2 := count_any wf b2 c2 r2 m hH6.at_
          have HFB := Lib.hid hT6.has.below
          have HWF := Lib.hid (⟨hwf.symm, hgb.symm⟩ : _ ∧ _)
          obtain ⟨p0, p1, p2, p3, p4⟩ := hr6
          obtain ⟨q0, q1, q2, q3, q4⟩ := hg6
          obtain ⟨s0, s1, s2, s3, s4⟩ := hk6
          have ev : rr.v = .agg #[.int .i64 (rr.at_ : Int), .int .i64 rr.told, .int .i64 rr.sum, .int .i64 rr.last, .int .i64 (rr.steps : Int)] := rfl
          rw [ev]
          have a3 := as32_yes
          have hq32 := eq32_any _ ⟨_, _, _, _, _, ev⟩
          rw [ev] at hq32
          clear hdo HD4 hk hH hK em er hgo hA4 hrd hgl hgn hT5 hr5 hg5 hwf hgb hef hT6 hH6 hm6 ev HBB HWC
          go_wp2_with fail
          rw [HWF.out.1, HWF.out.2]
          refine hc1.mono ?_
          rintro e w9 ⟨rfl, rfl⟩
          go_wp2_with fail
          refine hsd.mono ?_
          rintro e w9 ⟨rfl, rfl⟩
          go_wp2_with fail
          refine hc1.mono ?_
          rintro e w9 ⟨rfl, rfl⟩
          go_wp2_with fail
          refine hc2.mono ?_
          rintro e w9 ⟨rfl, rfl⟩
          clear hsd hc1 hc2
          go_wp2
          go_ret
          exact ⟨rfl, HFB.out⟩
  · have hl2 : (l.length : Int) > 40 := by omega
    go_enter Tryd.func3, Tryd.ntmps3
    go_wp2_with fail
    refine haw.mono ?_
    rintro e w1 ⟨rfl, b1⟩
    have haw1 := awake_any w1 (hT.below b1)
    have B1 := Lib.hid b1
    clear haw b1
    go_wp2_with fail
    refine haw1.mono ?_
    rintro e w2 ⟨rfl, b2⟩
    have B2 := Lib.hid (B1.out.trans (b2.mono B1.out.size))
    clear haw1 b2
    go_wp2
    go_ret
    exact ⟨rfl, B2.out⟩
theorem aloneLaw (a : Int) (ha : (Lit.int .u8 a).wf = true) (ad : Option Addr) (l : List Aq) (cap : Nat) {w : World} (hL : Asks w ad l) (hK : AsksOk l) (_W : World) (hT : TabAt w) : Calls Tryd.prog 3 #[.int .u8 a, .slice ad l.length cap] w fun e w' => e = .returned (.bool true) ∧ Below w.heap.size w w' := by
  obtain ⟨h0, h1⟩ := wf8 ha
  obtain ⟨n, rfl⟩ : ∃ n : Nat, a = (n : Int) := ⟨a.toNat, by omega⟩
  exact alone_law n (by omega) ad l cap w hT hL hK
end Go.Proofs.YthdcilbbllldiaaDoor
