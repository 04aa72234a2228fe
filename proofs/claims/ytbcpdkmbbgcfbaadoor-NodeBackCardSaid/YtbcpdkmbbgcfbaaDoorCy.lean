/- NodeChains's closure. Condition: the library's table stands. -/
import Derived.Test.YtbcpdkmbbgcfbaaDoorCz
namespace Go.Proofs.YtbcpdkmbbgcfbaaDoor
open Go.RowKit Go.Op
set_option maxRecDepth 100000

theorem Ch.nz {m : M} : ∀ {l : List (Int × Rv × Int)} {h : Int}, Ch m h l → ∀ x, x ∈ l → x.1 ≠ 0
  | [], _, _, x, hx => by cases hx
  | y :: l, _, ⟨e, h0, _, k, _, h3⟩, x, hx => by
    rcases List.mem_cons.1 hx with rfl | hx
    · rw [← e]; exact h0
    · exact Ch.nz h3 x hx
theorem SysE.slrange {w0 : World} {b c r pb po : Nat} {t : Value} {G : List (Nat × List Value)} {w : World} {m : M} {s : Pt} {sl : Sl} {l : List Int} (h : SysE w0 b c r pb po t G w m s) (hs : sl.In G (ints l)) (h0 : l ≠ []) : ∃ g o, sl.a = some ⟨g, o, none⟩ ∧ w.rangeAt g o (ints l) := by
  rcases hs.row with e | ⟨g, o, r, e, hm, hr⟩
  · have : l.length = 0 := by rw [← ints_length, e]; rfl
    exact absurd (List.length_eq_zero_iff.1 this) h0
  · obtain ⟨m0, s0, h1, -⟩ := h
    exact ⟨g, o, e, fun j u hj => (h1.rows g r hm).1.at_ _ _ (hr j u hj)⟩
section
variable {w0 w : World} {b c r : Nat} {G : List (Nat × List Value)} {zy zv : Nat} {m : M}
set_option maxHeartbeats 2000000 in
theorem chains1_any (h : HasE w0 b c r G w m) {y : Yd} {hd p1 p2 : Int} {x0 : Int × Rv × Int} {l' : List (Int × Rv × Int)} (hym : YM m y.H hd p1 p2 (x0 :: l')) (hlen : (x0 :: l').length ≤ 40) (hver : ∀ x, x ∈ x0 :: l' → x.2.1.ver ≤ 1000000) (hn : y.n = ⟨⟨#[107]⟩, hd, [p1, p2]⟩)
    (hch : y.ch.In G (ints ((x0 :: l').map fun x => x.2.1.ver))) (hhs : y.hs.In G (ints ((x0 :: l').map Prod.fst)))
    (hy : SVar w zy (Yd.row b y)) (ly : LocM w0 b c r G w zy) (v : Int) (cv : w.cell? ⟨zv, 0, none⟩ = some (.int .i64 v)) (lv : zv < w.heap.size ∧ zv ∉ [b, c, r]) :
    Calls Tryd.prog 14 (#[.pointer (some ⟨w.heap.size, 0, none⟩)] ++ #[.pointer (some ⟨zy, 0, none⟩), .pointer (some ⟨zv, 0, none⟩)]) (w.alloc (portObj b)) fun e w' => ∃ u, e = .returned u ∧ u = .iface 4 (.bool true) ∧ ButN [b, c, r] w.heap.size w w' := by
  have hD := Dgo.start h (Z := [b, c, r]) ⟨by simp, by simp, by simp⟩
  have hbp := (Below.refl w.heap.size w).alloc (Nat.le_refl _) (portObj b)
  obtain ⟨m1, e1, a1⟩ := up_go (v := 9223372036854775807) (n := 40) hym.word hym.ch (by simp) hlen
  have hf : foundS 9223372036854775807 (x0 :: l') = (⟨x0.1, ⟨x0.2.1, x0.2.2⟩⟩, 0) := by
    rw [foundS, if_pos (by have := hver x0 List.mem_cons_self; omega)]
  rw [hf] at e1
  obtain ⟨m2, e2, a2⟩ := up_go (v := v) (n := 40) ((a1.look hd).trans hym.word) (hym.ch.asked a1) (by simp) hlen
  have cnt0 := hym.cnt
  have cnt1 := a1.cnt
  have cnt2 : m1.count ≤ 1000 := by omega
  have cnt3 : m.count ≤ 1000 := by omega
  have hfp := found_pos v (x0 :: l')
  have hnz := hym.ch.nz
  have htb := hym.tombs
  obtain ⟨H, nd, pn, ch, hs⟩ := y
  simp only at *
  subst hn
  have hne1 : ((newestP 40 hd).run (ptDo w b) m).1 ≠ some none := by rw [newestP, (ptDo_quiet w b).run, e1]; simp
  have hne2 : ((upP 40 hd v).run (ptDo w b) m1).1 ≠ some none := by rw [(ptDo_quiet w b).run, e2]; simp
  have h1 := Newest_E hD.sys 40 (by omega) ⟨⟨#[107]⟩, hd, [p1, p2]⟩ ⟨pn, .nil, .nil, .nil⟩ hne1
  have ly0 := ly.loc hD
  have sy0 := hy.later hbp
  have hnod : ∀ W, SVar W zy (Yd.row b ⟨H, ⟨⟨#[107]⟩, hd, [p1, p2]⟩, pn, ch, hs⟩) → (Instr.loadAt 27 (.pointer (some ⟨zy, 2, none⟩))).run Tryd.prog W = .ok (.agg #[.string ⟨#[107]⟩, .int .i64 hd, .slice pn.a pn.n pn.cap]) W := fun W hS => load_mid (z := zy) (o := 2) (ty := 27) (sub := [.string ⟨#[107]⟩, .int .i64 hd, .slice pn.a pn.n pn.cap]) (hS.mid 2 _ (fun j v hj => by
    match j, hj with
    | 0, hj => exact hj
    | 1, hj => exact hj
    | 2, hj => exact hj
    | j + 3, hj => simp at hj)) sh27
  have hld := hnod _ sy0
  have HD := Lib.hid hD
  have HE := Lib.hid (⟨e1, e2, hne2⟩ : _ ∧ _ ∧ _)
  have HS := Lib.hid (⟨sy0, ly0⟩ : _ ∧ _)
  have HNd := Lib.hid hnod
  have HF := Lib.hid (⟨hfp, hnz, htb, hlen⟩ : _ ∧ _ ∧ _ ∧ _)
  have HH := Lib.hid (⟨hch, hhs⟩ : _ ∧ _)
  have HC2 := Lib.hid cnt2
  have HCv := Lib.hid (fun (t1 : Value) (G1 : List (Nat × List Value)) (w1 : World) (m1 : M) (s1 : Pt) (hd : Dgo w0 b c r w.heap.size [b, c, r] w t1 G G1 w1 m1 s1) => (LocM.cellD lv.2 lv.1 hd cv))
  have hmk := mkb4
  unfold Nd.v at h1
  simp only at h1
  show Calls Tryd.prog 14 #[.pointer (some ⟨w.heap.size, 0, none⟩), .pointer (some ⟨zy, 0, none⟩), .pointer (some ⟨zv, 0, none⟩)] (w.alloc (portObj b)) _
  clear h hym hch hhs hy ly hD hbp e1 e2 a1 a2 hf cnt0 cnt1 cnt2 cnt3 hne1 hne2 ly0 sy0 hfp hnz htb hnod hver hlen cv lv
  generalize hwp : w.alloc (portObj b) = wp at *
  go_enter Tryd.func14, Tryd.ntmps14
  go_wp2_with (first | ((with_reducible refine load_run ?_ (.tmp 14) 27 ?_ ?_ hld ?_); exact rfl; exact rfl; exact rfl) | fail)
  refine h1.mono ?_
  rintro e w1 hE
  obtain ⟨t1, G1, u, rfl, ⟨x, q, hx, hin, rfl⟩, ha⟩ := hE.done (ptDo_quiet w b)
  unfold newestP at hx ha
  rw [HE.out.1] at hx ha
  cases hx
  simp only at hin ha ⊢
  obtain ⟨sy, ly⟩ := HS.out
  have hD1 := HD.out.aft ha
  obtain ⟨sy1, ly1⟩ := ha.svar ly sy
  obtain ⟨w2, hw2⟩ : ∃ W, W = w1.alloc (.cells ((⟨x0.2.1, x0.2.2⟩ : Ag).row q).toArray 42) := ⟨_, rfl⟩
  have b2 : Below w1.heap.size w1 w2 := by rw [hw2]; exact (Below.refl _ w1).alloc (Nat.le_refl _) _
  have sa : SVar w2 w1.heap.size ((⟨x0.2.1, x0.2.2⟩ : Ag).row q) := by rw [hw2]; exact snew _ _ _
  have hD2 := hD1.later b2
  have sy2 := sy1.later b2
  have ly2 := ly1.same b2.size
  have la2 : Loc w0 b c r w.heap.size t1 G1 w2 w1.heap.size := by rw [hw2]; exact hD1.sys.fresh _
  have h2 := At_E hD2.sys 40 (by have := HC2.out; omega) ⟨⟨#[107]⟩, hd, [p1, p2]⟩ ⟨pn, .nil, .nil, .nil⟩ v HE.out.2.2
  have hld2 := HNd.out _ sy2
  have cv2 := HCv.out _ _ _ _ _ hD2
  have HW2 := Lib.hid hw2.symm
  have HD2 := Lib.hid hD2
  have HS2 := Lib.hid (⟨sy2, ly2, sa, la2⟩ : _ ∧ _ ∧ _ ∧ _)
  unfold Nd.v at h2
  unfold Ag.v
  simp only [Ag.row] at HW2
  simp only at h2 ⊢
  clear h1 hE hin ha sy ly hD1 sy1 ly1 hw2 b2 sa hD2 sy2 ly2 la2 hld
  go_wp2_with (first | rw [HW2.out] | ((with_reducible refine load_run ?_ (.tmp 22) 27 ?_ ?_ hld2 ?_); exact rfl; exact rfl; exact rfl) | fail)
  refine h2.mono ?_
  rintro e w3 hE
  obtain ⟨t2, G2, u, rfl, ⟨x, q2, hx, hin, rfl⟩, ha⟩ := hE.done (ptDo_quiet w b)
  rw [HE.out.2.1] at hx ha
  cases hx
  simp only at hin ha ⊢
  obtain ⟨sy, ly, sa, la⟩ := HS2.out
  have hD3 := HD2.out.aft ha
  obtain ⟨sy3, ly3⟩ := ha.svar ly sy
  obtain ⟨sa3, la3⟩ := ha.svar la sa
  obtain ⟨fx, hfx⟩ : ∃ fx, fx = (foundS v (x0 :: l')).1 := ⟨_, rfl⟩
  obtain ⟨fe, hfe⟩ : ∃ fe, fe = (foundS v (x0 :: l')).2 := ⟨_, rfl⟩
  rw [← hfx] at hin ⊢
  rw [← hfe]
  obtain ⟨w4, hw4⟩ : ∃ W, W = w3.alloc (.cells (fx.a.row q2).toArray 42) := ⟨_, rfl⟩
  have b4 : Below w3.heap.size w3 w4 := by rw [hw4]; exact (Below.refl _ w3).alloc (Nat.le_refl _) _
  have sb : SVar w4 w3.heap.size (fx.a.row q2) := by rw [hw4]; exact snew _ _ _
  have hD4 := hD3.later b4
  have sy4 := sy3.later b4
  have sa4 := sa3.later b4
  obtain ⟨vs, hvs⟩ : ∃ vs, vs = (x0 :: l').map fun x => x.2.1.ver := ⟨_, rfl⟩
  have hvl : vs.length = (x0 :: l').length := by rw [hvs, List.length_map]
  have hch4 := HH.out.1.more fun x hx => hD4.gro.1 x hx
  have hhs4 := HH.out.2.more fun x hx => hD4.gro.1 x hx
  rw [← hvs] at hch4
  have hv0 : vs ≠ [] := by rw [hvs]; simp
  obtain ⟨g, o, ea, hrg⟩ := hD4.sys.slrange hch4 hv0
  obtain ⟨g2, o2, ea2, ce2⟩ := hD4.sys.slcell (i := 0) hhs4 rfl
  have h3 := refAt_any w4 ch.a ch.cap vs (by rw [hvl]; have := HF.out.2.2.2; omega) (fun _ => ⟨g, o, ea, hrg⟩) v
  have hchn := hch4.n
  have hhsn := hhs4.n
  rw [ints_length] at hchn hhsn
  rw [hvl] at hchn h3
  rw [List.length_map] at hhsn
  obtain ⟨n, hnn⟩ : ∃ n, n = (x0 :: l').length := ⟨_, rfl⟩
  rw [← hnn] at hchn hhsn h3
  obtain ⟨cha, chn, chc⟩ := ch
  obtain ⟨hsa, hsn, hsc⟩ := hs
  simp only at hchn hhsn ea ea2 h3 ce2
  obtain rfl := hchn.symm
  obtain rfl := hhsn.symm
  subst ea ea2
  have c5 := sy4.cell (i := 5) rfl
  have c6 := sy4.cell (i := 6) rfl
  simp only [Nat.add_zero] at c5 c6 ce2
  have cv4 := HCv.out _ _ _ _ _ hD4
  have ca4 := sa4.cell (i := 0) rfl
  have cb0 := sb.cell (i := 0) rfl
  have cb5 := sb.cell (i := 5) rfl
  simp only at ca4 cb0 cb5
  have c00 : w4.cell? ⟨g, o, none⟩ = some (.int .i64 x0.2.1.ver) := by
    have := hrg 0 (.int .i64 x0.2.1.ver) (by rw [hvs]; rfl)
    rwa [Nat.add_zero] at this
  have HRg := Lib.hid hrg
  have HB := Lib.hid (fun W (hW : Below w4.heap.size w4 W) => (hD4.later hW).but)
  have HV := Lib.hid (⟨hvs, hfx, hfe, hnn, hvl⟩ : _ ∧ _ ∧ _ ∧ _ ∧ _)
  have HW4 := Lib.hid hw4.symm
  have hn1 : (1 : Int) ≤ (n : Int) := by rw [hnn]; simp only [List.length_cons]; omega
  unfold Ag.v
  simp only [Ag.row] at HW4
  clear h2 hE hin ha sy ly sa la hD3 sy3 ly3 sa3 la3 hfx hfe hw4 b4 sb hD4 sy4 sa4 hvs hvl hch4 hhs4 hv0 hrg hnn hld2 cv2
  go_wp2_with (first | rw [HW4.out] | fail)
  refine h3.mono ?_
  rintro e w5 ⟨rfl, rfl⟩
  obtain ⟨hvs, hfx, hfe, hnn, hvl⟩ := HV.out
  obtain ⟨hfp, hnz, htb, -⟩ := HF.out
  rw [← hvs] at hfp
  rcases hfp with ⟨f1, f2⟩ | ⟨i, x, f0, f1, f2⟩
  · rw [f1]
    have e1 : (fx.h != 0) = false := by rw [hfx, f2]; rfl
    have e2 : fe = 0 := by rw [hfe, f2]
    rw [e1, e2]
    clear h3 hvs hfx hfe hnn hvl hnz htb f1 f2 e1 e2
    go_wp2_with fail
    go_quiet (fail)
    go_wp2_with fail
    go_quiet (fail)
    go_wp2
    go_ret
    exact ⟨_, rfl, rfl, HB.out _ ((below_drewN _ _).trans (below_drewN _ _))⟩
  · rw [f1]
    have hxm : x ∈ x0 :: l' := List.mem_of_getElem? f0
    have e1 : (fx.h != 0) = true := by rw [hfx, f2]; simpa using hnz x hxm
    have e2 : fe = 0 := by rw [hfe, f2]
    have e3 : fx.a.r.ver = x.2.1.ver := by rw [hfx, f2]
    have e4 : fx.a.r.dead = true := by
      rw [hfx, f2]
      show x.2.1.dead = true
      rw [htb x hxm]; rfl
    have hi1 : i < n := by rw [hnn]; exact (List.getElem?_eq_some_iff.1 f0).1
    have hi2 : (i : Int) < (n : Int) := by omega
    have hi3 : ¬ ((i : Int) < 0) := by omega
    have hi4 : (0 : Int) ≤ (i : Int) := by omega
    have ci : w4.cell? ⟨g, o + i, none⟩ = some (.int .i64 x.2.1.ver) := HRg.out i _ (ints_get (by rw [hvs, List.getElem?_map, f0]; rfl))
    rw [e1, e2]
    rw [e3] at cb0
    rw [e4] at cb5
    generalize x.2.1.ver = xv at cb0 ci
    clear h3 hvs hfx hfe hnn hvl hnz htb f0 f1 f2 e1 e2 e3 e4 hxm
    go_wp2_with fail
    go_quiet (fail)
    go_wp2_with fail
    go_quiet (fail)
    go_wp2
    go_ret
    exact ⟨_, rfl, rfl, HB.out _ ((below_drewN _ _).trans (below_drewN _ _))⟩
end
end Go.Proofs.YtbcpdkmbbgcfbaaDoor
