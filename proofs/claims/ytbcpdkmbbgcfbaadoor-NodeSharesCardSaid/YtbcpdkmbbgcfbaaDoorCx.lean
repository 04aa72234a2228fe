/- NodeChains: the reference's At, the closure, the law. Condition: the library's table stands. -/
import Derived.Test.YtbcpdkmbbgcfbaaDoorNw
import Derived.Test.YtbcpdkmbbgcfbaaDoorOpenB
namespace Go.Proofs.YtbcpdkmbbgcfbaaDoor
open Go.RowKit Go.Op
set_option maxRecDepth 100000

/-- Where a row of falling numbers first isn't above a number. -/
def posOf (v : Int) : List Int → Int
  | [] => -1
  | x :: l => if x ≤ v then 0 else (if posOf v l < 0 then -1 else posOf v l + 1)
theorem posOf_ge (v : Int) : ∀ l, -1 ≤ posOf v l ∧ posOf v l < (l.length : Int)
  | [] => by simp [posOf]
  | x :: l => by
    have := posOf_ge v l
    rw [posOf]
    simp only [List.length_cons]
    split
    · omega
    · split <;> omega
theorem posOf_at (v : Int) : ∀ (l : List Int) (i : Nat), (∀ j x, j < i → l[j]? = some x → ¬ x ≤ v) → (∀ x, l[i]? = some x → x ≤ v → posOf v l = i) ∧ (l.length ≤ i → posOf v l = -1)
  | [], i, _ => ⟨fun x hx => by simp at hx, fun _ => rfl⟩
  | y :: l, 0, _ => ⟨fun x hx hv => by
      simp at hx
      subst hx
      rw [posOf, if_pos hv]; rfl, fun h => by simp at h⟩
  | y :: l, i + 1, h => by
    have h0 := h 0 y (by omega) rfl
    obtain ⟨h1, h2⟩ := posOf_at v l i fun j x hj hx => h (j + 1) x (by omega) (by simpa using hx)
    refine ⟨fun x hx hv => ?_, fun hl => ?_⟩
    · rw [posOf, if_neg h0, h1 x (by simpa using hx) hv, if_neg (by omega)]
      simp
    · rw [posOf, if_neg h0, h2 (by simpa using hl)]
      rfl
theorem found_pos (v : Int) : ∀ (l : List (Int × Rv × Int)), (posOf v (l.map fun x => x.2.1.ver) = -1 ∧ foundS v l = (sp0, 0)) ∨ ∃ (i : Nat) (x : Int × Rv × Int), l[i]? = some x ∧ posOf v (l.map fun x => x.2.1.ver) = (i : Int) ∧ foundS v l = (⟨x.1, ⟨x.2.1, x.2.2⟩⟩, 0)
  | [] => .inl ⟨rfl, rfl⟩
  | y :: l => by
    rw [List.map_cons, posOf, foundS]
    by_cases hv : y.2.1.ver ≤ v
    · rw [if_pos hv, if_pos hv]
      exact .inr ⟨0, y, rfl, rfl, rfl⟩
    · rw [if_neg hv, if_neg hv]
      rcases found_pos v l with ⟨h1, h2⟩ | ⟨i, x, h1, h2, h3⟩
      · rw [h1]
        exact .inl ⟨rfl, h2⟩
      · rw [h2, if_neg (by omega)]
        exact .inr ⟨i + 1, x, by simpa using h1, by simp, h3⟩
set_option maxHeartbeats 1000000 in
theorem refAt_any (w : World) (a : Option Addr) (cap : Nat) (l : List Int) (hl : l.length ≤ 1000) (hr : l ≠ [] → ∃ g o, a = some ⟨g, o, none⟩ ∧ w.rangeAt g o (ints l)) (v : Int) :
    Calls Tryd.prog 17 #[.slice a l.length cap, .int .i64 v] w fun e w' => e = .returned (.int .i64 (posOf v l)) ∧ w = w' := by
  obtain ⟨n, hn⟩ : ∃ n, n = l.length := ⟨_, rfl⟩
  have HN := Lib.hid hn
  have HR := Lib.hid hr
  have hn2 : (n : Int) ≤ 1000 := by omega
  rw [← hn]
  clear hn hr hl
  go_enter Tryd.func17, Tryd.ntmps17
  go_wp2_with fail
  go_loopw [5] (fun iv wr => ∃ i : Nat, iv = .int .i64 (i : Int) ∧ i ≤ n ∧ w = wr ∧ Hid (∀ j x, j < i → l[j]? = some x → ¬ x ≤ v)) (fun iv _ => n - (intOf iv).toNat)
  case atStart => exact ⟨0, rfl, Nat.zero_le _, rfl, fun j x hj => absurd hj (Nat.not_lt_zero _)⟩
  case round =>
    obtain ⟨i, rfl, hi, rfl, hX⟩ := hrel
    have hp := posOf_at v l i hX.out
    by_cases hin : i < n
    · have hin2 : (i : Int) < (n : Int) := by omega
      obtain ⟨x, hx⟩ : ∃ x, l[i]? = some x := ⟨_, List.getElem?_eq_getElem (by rw [← HN.out]; exact hin)⟩
      obtain ⟨g, o, ea, hrow⟩ := HR.out (fun e => by rw [e] at hx; simp at hx)
      have hc : w.cell? ⟨g, o + i, none⟩ = some (.int .i64 x) := hrow i _ (ints_get hx)
      by_cases hv : x ≤ v
      · have HE := Lib.hid (hp.1 x hx hv)
        subst ea
        clear hp hX HR hrow hx
        go_wp2_with fail
        go_ret
        exact ⟨by rw [HE.out]; rfl, rfl⟩
      · have HX2 : Hid (∀ j y, j < i + 1 → l[j]? = some y → ¬ y ≤ v) := fun j y hj hy => by
          by_cases e : j = i
          · subst e
            rw [hx] at hy
            cases hy
            exact hv
          · exact hX.out j y (by omega) hy
        subst ea
        clear hp hX HR hrow hx
        go_wp2_with fail
        exact ⟨⟨i + 1, rfl, by omega, by trivial, HX2⟩, by simp only [intOf]; omega⟩
    · have hin2 : ¬ (i : Int) < (n : Int) := by omega
      have HE := Lib.hid (hp.2 (by rw [← HN.out]; omega))
      clear hp hX HR
      go_wp2_with fail
      go_ret
      exact ⟨by rw [HE.out]; rfl, rfl⟩
end Go.Proofs.YtbcpdkmbbgcfbaaDoor
/- NodeChains's closure. Condition: the library's table stands. -/
namespace Go.Proofs.YtbcpdkmbbgcfbaaDoor
open Go.RowKit Go.Op
set_option maxRecDepth 100000

theorem Ch.nz {m : M} : ∀ {l : List (Int × Rv × Int)} {h : Int}, Ch m h l → ∀ x, x ∈ l → x.1 ≠ 0
  | [], _, _, x, hx => by cases hx
  | y :: l, _, ⟨e, h0, _, k, _, h3⟩, x, hx => by
    rcases List.mem_cons.1 hx with rfl | hx
    · rw [← e]; exact h0
    · exact Ch.nz h3 x hx
theorem SysE.slrange {w0 : World} {b c r pb po : Nat} {t : Value} {G : List (Nat × List Value)} {w : World} {m : M} {s : Pt} {sl : Sl} {l : List Int} (h : SysE w0 b c r pb po t G w m s) (hs : sl.In G (ints l)) (h0 : l ≠ []) : ∃ g o, sl.a = some ⟨g, o, none⟩ ∧ w.rangeAt g o (ints l) := by
  rcases hs.row with e | ⟨g, o, r, e, hm, hr⟩
  · have : l.length = 0 := by rw [← ints_length, e]; rfl
    exact absurd (List.length_eq_zero_iff.1 this) h0
  · obtain ⟨m0, s0, h1, -⟩ := h
    exact ⟨g, o, e, fun j u hj => (h1.rows g r hm).1.at_ _ _ (hr j u hj)⟩
section
variable {w0 w : World} {b c r : Nat} {G : List (Nat × List Value)} {zy zv : Nat} {m : M}
set_option maxHeartbeats 2000000 in
theorem chains1_any (h : HasE w0 b c r G w m) {y : Yd} {hd p1 p2 : Int} {x0 : Int × Rv × Int} {l' : List (Int × Rv × Int)} (hym : YM m y.H hd p1 p2 (x0 :: l')) (hlen : (x0 :: l').length ≤ 40) (hver : ∀ x, x ∈ x0 :: l' → x.2.1.ver ≤ 1000000) (hn : y.n = ⟨⟨#[107]⟩, hd, [p1, p2]⟩)
    (hch : y.ch.In G (ints ((x0 :: l').map fun x => x.2.1.ver))) (hhs : y.hs.In G (ints ((x0 :: l').map Prod.fst)))
    (hy : SVar w zy (Yd.row b y)) (ly : LocM w0 b c r G w zy) (v : Int) (cv : w.cell? ⟨zv, 0, none⟩ = some (.int .i64 v)) (lv : zv < w.heap.size ∧ zv ∉ [b, c, r]) :
    Calls Tryd.prog 14 (#[.pointer (some ⟨w.heap.size, 0, none⟩)] ++ #[.pointer (some ⟨zy, 0, none⟩), .pointer (some ⟨zv, 0, none⟩)]) (w.alloc (portObj b)) fun e w' => ∃ u, e = .returned u ∧ u = .iface 4 (.bool true) ∧ ButN [b, c, r] w.heap.size w w' := by
  have hD := Dgo.start h (Z := [b, c, r]) ⟨by simp, by simp, by simp⟩
  have hbp := (Below.refl w.heap.size w).alloc (Nat.le_refl _) (portObj b)
  obtain ⟨m1, e1, a1⟩ := up_go (v := 9223372036854775807) (n := 40) hym.word hym.ch (by simp) hlen
  have hf : foundS 9223372036854775807 (x0 :: l') = (⟨x0.1, ⟨x0.2.1, x0.2.2⟩⟩, 0) := by
    rw [foundS, if_pos (by have := hver x0 List.mem_cons_self; omega)]
  rw [hf] at e1
  obtain ⟨m2, e2, a2⟩ := up_go (v := v) (n := 40) ((a1.look hd).trans hym.word) (hym.ch.asked a1) (by simp) hlen
  have cnt0 := hym.cnt
  have cnt1 := a1.cnt
  have cnt2 : m1.count ≤ 1000 := by omega
  have cnt3 : m.count ≤ 1000 := by omega
  have hfp := found_pos v (x0 :: l')
  have hnz := hym.ch.nz
  have htb := hym.tombs
  obtain ⟨H, nd, pn, ch, hs⟩ := y
  simp only at *
  subst hn
  have hne1 : ((newestP 40 hd).run (ptDo w b) m).1 ≠ some none := by rw [newestP, (ptDo_quiet w b).run, e1]; simp
  have hne2 : ((upP 40 hd v).run (ptDo w b) m1).1 ≠ some none := by rw [(ptDo_quiet w b).run, e2]; simp
  have h1 := Newest_E hD.sys 40 (by omega) ⟨⟨#[107]⟩, hd, [p1, p2]⟩ ⟨pn, .nil, .nil, .nil⟩ hne1
  have ly0 := ly.loc hD
  have sy0 := hy.later hbp
  have hnod : ∀ W, SVar W zy (Yd.row b ⟨H, ⟨⟨#[107]⟩, hd, [p1, p2]⟩, pn, ch, hs⟩) → (Instr.loadAt 27 (.pointer (some ⟨zy, 2, none⟩))).run Tryd.prog W = .ok (.agg #[.string ⟨#[107]⟩, .int .i64 hd, .slice pn.a pn.n pn.cap]) W := fun W hS => load_mid (z := zy) (o := 2) (ty := 27) (sub := [.string ⟨#[107]⟩, .int .i64 hd, .slice pn.a pn.n pn.cap]) (hS.mid 2 _ (fun j v hj => by
    match j, hj with
    | 0, hj => exact hj
    | 1, hj => exact hj
    | 2, hj => exact hj
    | j + 3, hj => simp at hj)) sh27
  have hld := hnod _ sy0
  have HD := Lib.hid hD
  have HE := Lib.hid (⟨e1, e2, hne2⟩ : _ ∧ _ ∧ _)
  have HS := Lib.hid (⟨sy0, ly0⟩ : _ ∧ _)
  have HNd := Lib.hid hnod
  have HF := Lib.hid (⟨hfp, hnz, htb, hlen⟩ : _ ∧ _ ∧ _ ∧ _)
  have HH := Lib.hid (⟨hch, hhs⟩ : _ ∧ _)
  have HC2 := Lib.hid cnt2
  have HCv := Lib.hid (fun (t1 : Value) (G1 : List (Nat × List Value)) (w1 : World) (m1 : M) (s1 : Pt) (hd : Dgo w0 b c r w.heap.size [b, c, r] w t1 G G1 w1 m1 s1) => (LocM.cellD lv.2 lv.1 hd cv))
  have hmk := mkb4
  unfold Nd.v at h1
  simp only at h1
  show Calls Tryd.prog 14 #[.pointer (some ⟨w.heap.size, 0, none⟩), .pointer (some ⟨zy, 0, none⟩), .pointer (some ⟨zv, 0, none⟩)] (w.alloc (portObj b)) _
  clear h hym hch hhs hy ly hD hbp e1 e2 a1 a2 hf cnt0 cnt1 cnt2 cnt3 hne1 hne2 ly0 sy0 hfp hnz htb hnod hver hlen cv lv
  generalize hwp : w.alloc (portObj b) = wp at *
  go_enter Tryd.func14, Tryd.ntmps14
  go_wp2_with (first | ((with_reducible refine load_run ?_ (.tmp 14) 27 ?_ ?_ hld ?_); exact rfl; exact rfl; exact rfl) | fail)
  refine h1.mono ?_
  rintro e w1 hE
  obtain ⟨t1, G1, u, rfl, ⟨x, q, hx, hin, rfl⟩, ha⟩ := hE.done (ptDo_quiet w b)
  unfold newestP at hx ha
  rw [HE.out.1] at hx ha
  cases hx
  simp only at hin ha ⊢
  obtain ⟨sy, ly⟩ := HS.out
  have hD1 := HD.out.aft ha
  obtain ⟨sy1, ly1⟩ := ha.svar ly sy
  obtain ⟨w2, hw2⟩ : ∃ W, W = w1.alloc (.cells ((⟨x0.2.1, x0.2.2⟩ : Ag).row q).toArray 42) := ⟨_, rfl⟩
  have b2 : Below w1.heap.size w1 w2 := by rw [hw2]; exact (Below.refl _ w1).alloc (Nat.le_refl _) _
  have sa : SVar w2 w1.heap.size ((⟨x0.2.1, x0.2.2⟩ : Ag).row q) := by rw [hw2]; exact snew _ _ _
  have hD2 := hD1.later b2
  have sy2 := sy1.later b2
  have ly2 := ly1.same b2.size
  have la2 : Loc w0 b c r w.heap.size t1 G1 w2 w1.heap.size := by rw [hw2]; exact hD1.sys.fresh _
  have h2 := At_E hD2.sys 40 (by have := HC2.out; omega) ⟨⟨#[107]⟩, hd, [p1, p2]⟩ ⟨pn, .nil, .nil, .nil⟩ v HE.out.2.2
  have hld2 := HNd.out _ sy2
  have cv2 := HCv.out _ _ _ _ _ hD2
  have HW2 := Lib.hid hw2.symm
  have HD2 := Lib.hid hD2
  have HS2 := Lib.hid (⟨sy2, ly2, sa, la2⟩ : _ ∧ _ ∧ _ ∧ _)
  unfold Nd.v at h2
  unfold Ag.v
  simp only [Ag.row] at HW2
  simp only at h2 ⊢
  clear h1 hE hin ha sy ly hD1 sy1 ly1 hw2 b2 sa hD2 sy2 ly2 la2 hld
  go_wp2_with (first | rw [HW2.out] | ((with_reducible refine load_run ?_ (.tmp 22) 27 ?_ ?_ hld2 ?_); exact rfl; exact rfl; exact rfl) | fail)
  refine h2.mono ?_
  rintro e w3 hE
  obtain ⟨t2, G2, u, rfl, ⟨x, q2, hx, hin, rfl⟩, ha⟩ := hE.done (ptDo_quiet w b)
  rw [HE.out.2.1] at hx ha
  cases hx
  simp only at hin ha ⊢
  obtain ⟨sy, ly, sa, la⟩ := HS2.out
  have hD3 := HD2.out.aft ha
  obtain ⟨sy3, ly3⟩ := ha.svar ly sy
  obtain ⟨sa3, la3⟩ := ha.svar la sa
  obtain ⟨fx, hfx⟩ : ∃ fx, fx = (foundS v (x0 :: l')).1 := ⟨_, rfl⟩
  obtain ⟨fe, hfe⟩ : ∃ fe, fe = (foundS v (x0 :: l')).2 := ⟨_, rfl⟩
  rw [← hfx] at hin ⊢
  rw [← hfe]
  obtain ⟨w4, hw4⟩ : ∃ W, W = w3.alloc (.cells (fx.a.row q2).toArray 42) := ⟨_, rfl⟩
  have b4 : Below w3.heap.size w3 w4 := by rw [hw4]; exact (Below.refl _ w3).alloc (Nat.le_refl _) _
  have sb : SVar w4 w3.heap.size (fx.a.row q2) := by rw [hw4]; exact snew _ _ _
  have hD4 := hD3.later b4
  have sy4 := sy3.later b4
  have sa4 := sa3.later b4
  obtain ⟨vs, hvs⟩ : ∃ vs, vs = (x0 :: l').map fun x => x.2.1.ver := ⟨_, rfl⟩
  have hvl : vs.length = (x0 :: l').length := by rw [hvs, List.length_map]
  have hch4 := HH.out.1.more fun x hx => hD4.gro.1 x hx
  have hhs4 := HH.out.2.more fun x hx => hD4.gro.1 x hx
  rw [← hvs] at hch4
  have hv0 : vs ≠ [] := by rw [hvs]; simp
  obtain ⟨g, o, ea, hrg⟩ := hD4.sys.slrange hch4 hv0
  obtain ⟨g2, o2, ea2, ce2⟩ := hD4.sys.slcell (i := 0) hhs4 rfl
  have h3 := refAt_any w4 ch.a ch.cap vs (by rw [hvl]; have := HF.out.2.2.2; omega) (fun _ => ⟨g, o, ea, hrg⟩) v
  have hchn := hch4.n
  have hhsn := hhs4.n
  rw [ints_length] at hchn hhsn
  rw [hvl] at hchn h3
  rw [List.length_map] at hhsn
  obtain ⟨n, hnn⟩ : ∃ n, n = (x0 :: l').length := ⟨_, rfl⟩
  rw [← hnn] at hchn hhsn h3
  obtain ⟨cha, chn, chc⟩ := ch
  obtain ⟨hsa, hsn, hsc⟩ := hs
  simp only at hchn hhsn ea ea2 h3 ce2
  obtain rfl := hchn.symm
  obtain rfl := hhsn.symm
  subst ea ea2
  have c5 := sy4.cell (i := 5) rfl
  have c6 := sy4.cell (i := 6) rfl
  simp only [Nat.add_zero] at c5 c6 ce2
  have cv4 := HCv.out _ _ _ _ _ hD4
  have ca4 := sa4.cell (i := 0) rfl
  have cb0 := sb.cell (i := 0) rfl
  have cb5 := sb.cell (i := 5) rfl
  simp only at ca4 cb0 cb5
  have c00 : w4.cell? ⟨g, o, none⟩ = some (.int .i64 x0.2.1.ver) := by
    have := hrg 0 (.int .i64 x0.2.1.ver) (by rw [hvs]; rfl)
    rwa [Nat.add_zero] at this
  have HRg := Lib.hid hrg
  have HB := Lib.hid (fun W (hW : Below w4.heap.size w4 W) => (hD4.later hW).but)
  have HV := Lib.hid (⟨hvs, hfx, hfe, hnn, hvl⟩ : _ ∧ _ ∧ _ ∧ _ ∧ _)
  have HW4 := Lib.hid hw4.symm
  have hn1 : (1 : Int) ≤ (n : Int) := by rw [hnn]; simp only [List.length_cons]; omega
  unfold Ag.v
  simp only [Ag.row] at HW4
  clear h2 hE hin ha sy ly sa la hD3 sy3 ly3 sa3 la3 hfx hfe hw4 b4 sb hD4 sy4 sa4 hvs hvl hch4 hhs4 hv0 hrg hnn hld2 cv2
  go_wp2_with (first | rw [HW4.out] | fail)
  refine h3.mono ?_
  rintro e w5 ⟨rfl, rfl⟩
  obtain ⟨hvs, hfx, hfe, hnn, hvl⟩ := HV.out
  obtain ⟨hfp, hnz, htb, -⟩ := HF.out
  rw [← hvs] at hfp
  rcases hfp with ⟨f1, f2⟩ | ⟨i, x, f0, f1, f2⟩
  · rw [f1]
    have e1 : (fx.h != 0) = false := by rw [hfx, f2]; rfl
    have e2 : fe = 0 := by rw [hfe, f2]
    rw [e1, e2]
    clear h3 hvs hfx hfe hnn hvl hnz htb f1 f2 e1 e2
    go_wp2_with fail
    go_quiet (fail)
    go_wp2_with fail
    go_quiet (fail)
    go_wp2
    go_ret
    exact ⟨_, rfl, rfl, HB.out _ ((below_drewN _ _).trans (below_drewN _ _))⟩
  · rw [f1]
    have hxm : x ∈ x0 :: l' := List.mem_of_getElem? f0
    have e1 : (fx.h != 0) = true := by rw [hfx, f2]; simpa using hnz x hxm
    have e2 : fe = 0 := by rw [hfe, f2]
    have e3 : fx.a.r.ver = x.2.1.ver := by rw [hfx, f2]
    have e4 : fx.a.r.dead = true := by
      rw [hfx, f2]
      show x.2.1.dead = true
      rw [htb x hxm]; rfl
    have hi1 : i < n := by rw [hnn]; exact (List.getElem?_eq_some_iff.1 f0).1
    have hi2 : (i : Int) < (n : Int) := by omega
    have hi3 : ¬ ((i : Int) < 0) := by omega
    have hi4 : (0 : Int) ≤ (i : Int) := by omega
    have ci : w4.cell? ⟨g, o + i, none⟩ = some (.int .i64 x.2.1.ver) := HRg.out i _ (ints_get (by rw [hvs, List.getElem?_map, f0]; rfl))
    rw [e1, e2]
    rw [e3] at cb0
    rw [e4] at cb5
    generalize x.2.1.ver = xv at cb0 ci
    clear h3 hvs hfx hfe hnn hvl hnz htb f0 f1 f2 e1 e2 e3 e4 hxm
    go_wp2_with fail
    go_quiet (fail)
    go_wp2_with fail
    go_quiet (fail)
    go_wp2
    go_ret
    exact ⟨_, rfl, rfl, HB.out _ ((below_drewN _ _).trans (below_drewN _ _))⟩
end
end Go.Proofs.YtbcpdkmbbgcfbaaDoor
/- NodeChains's law. Condition: the library's table stands. -/
namespace Go.Proofs.YtbcpdkmbbgcfbaaDoor
open Go.RowKit Go.Op
set_option maxRecDepth 100000

theorem ent_14 (xs : Array Value) (w : World) : (callFunc 14 xs).run Tryd.prog w = .ok (.enter 14 xs) w := by kernel_rfl
theorem vers_all : ∀ (l : List Nat), (∀ b, b ∈ l → b ≤ 255) → ∀ u, u ∈ vers l → u ≤ 256 * (l.length : Int)
  | [], _, u, hu => by cases hu
  | b :: l, h, u, hu => by
    have h1 := vers_le l fun x hx => h x (List.mem_cons_of_mem _ hx)
    have h2 := h b List.mem_cons_self
    rw [vers] at hu
    rcases List.mem_cons.1 hu with rfl | hu
    · simp only [List.length_cons]; omega
    · have := vers_all l (fun x hx => h x (List.mem_cons_of_mem _ hx)) u hu
      simp only [List.length_cons]; omega
/-- The bytes of a parameter, for lay. -/
theorem BysI.nat {w : World} {a : Option Addr} {T : List Int} (h : BysI w a T) : ∃ bs : List Nat, bs.length = T.length ∧ Bys w [] a bs := by
  refine ⟨T.map Int.toNat, List.length_map .., ?_, ?_⟩
  · intro b hb
    obtain ⟨x, hx, rfl⟩ := List.mem_map.1 hb
    rcases h with e | ⟨g, o, e, hlt, hc⟩
    · subst e; cases hx
    · obtain ⟨k, hk, rfl⟩ := List.mem_iff_getElem.1 hx
      have := (hc k hk).2
      omega
  · rcases h with e | ⟨g, o, e, hlt, hc⟩
    · exact .inl (by rw [e]; rfl)
    · refine .inr ⟨g, o, e, hlt, by simp, fun j u hj => ?_⟩
      unfold u8s at hj
      rw [List.map_map, List.getElem?_map] at hj
      obtain ⟨x, hx, hj⟩ := Option.map_eq_some_iff.1 hj
      subst hj
      obtain ⟨hk, rfl⟩ := List.getElem?_eq_some_iff.1 hx
      obtain ⟨q1, q2, -⟩ := hc j hk
      rw [q1]
      simp only [Function.comp]
      rw [Int.toNat_of_nonneg q2]
theorem Bys.later {w w1 : World} {a : Option Addr} {bs : List Nat} (h : Bys w [] a bs) (hb : Below w.heap.size w w1) : Bys w1 [] a bs :=
  ⟨h.le, h.row.imp id fun ⟨g, o, e, hg, hz, hr⟩ => ⟨g, o, e, Nat.lt_of_lt_of_le hg hb.size, hz, fun j u hj => by
    rw [hb.cell (p := ⟨g, o + j, none⟩) hg]
    exact hr j u hj⟩⟩
set_option maxHeartbeats 2000000 in
theorem chains_law (w : World) (hT : TabAt w) (a : Option Addr) (cap : Nat) (bs : List Nat) (hb : Bys w [] a bs) (v : Int) : Calls Tryd.prog 3 #[.slice a bs.length cap, .int .i64 v] w fun e w' => e = .returned (.bool true) ∧ Below w.heap.size w w' := by
  obtain ⟨wa, hwa⟩ : ∃ W, W = w.alloc (.cells #[.int .i64 v] 3) := ⟨_, rfl⟩
  have hba : Below w.heap.size w wa := by rw [hwa]; exact (Below.refl _ _).alloc (Nat.le_refl _) _
  have hv : SVar wa w.heap.size [.int .i64 v] := by rw [hwa]; exact snew _ _ _
  have haw := awake_any wa (hT.below hba)
  have a4 := as4_yes
  have hm := hmf
  have HW := Lib.hid hwa.symm
  have HBa := Lib.hid hba
  have HT := Lib.hid hT
  have HB := Lib.hid hb
  have HVv := Lib.hid hv
  obtain ⟨n, hn⟩ : ∃ n, n = bs.length := ⟨_, rfl⟩
  have HN := Lib.hid hn
  rw [← hn]
  clear hT hb hba hv hwa hn
  go_enter Tryd.func3, Tryd.ntmps3
  go_wp2_with (first | rw [HW.out] | fail)
  refine haw.mono ?_
  rintro e w1 ⟨rfl, hb1⟩
  have hb01 := HBa.out.trans (hb1.mono HBa.out.size)
  by_cases hin : 1 ≤ n ∧ n ≤ 40
  · have i1 : ¬ ((n : Int) < 1) := by omega
    have i2 : ¬ (40 < (n : Int)) := by omega
    have hl := lay_any w1 (HT.out.below hb01) (a := a) (cap := cap) bs (by rw [← HN.out]; omega) (HB.out.later hb01)
    rw [← HN.out] at hl
    have HB1 := Lib.hid hb01
    have HV1 := Lib.hid (HVv.out.later hb1)
    clear haw hb1 hb01
    go_wp2_with fail
    refine hl.mono ?_
    rintro e w2 ⟨⟨b, c, r, G, m, y, hd, p1, p2, l, rfl, hL⟩, hb2⟩
    have hver : ∀ x, x ∈ l → x.2.1.ver ≤ 1000000 := fun x hx => by
      have h1 : x.2.1.ver ∈ vers bs.reverse := by rw [← hL.vers]; exact List.mem_map_of_mem (f := fun x => x.2.1.ver) hx
      have h2 := vers_all bs.reverse (fun b hb => HB.out.le b (List.mem_reverse.1 hb)) _ h1
      rw [List.length_reverse, ← HN.out] at h2
      omega
    have hlen := hL.len
    rw [← HN.out] at hlen
    match l, hL, hver, hlen with
    | [], hL, hver, hlen => simp at hlen; omega
    | x0 :: l', hL, hver, hlen =>
    obtain ⟨w3, hw3⟩ : ∃ W, W = w2.alloc (.cells (Yd.row b y).toArray 29) := ⟨_, rfl⟩
    have hb3 : Below w2.heap.size w2 w3 := by rw [hw3]; exact (Below.refl _ _).alloc (Nat.le_refl _) _
    have hE3 := hL.has.later hb3
    have hy3 : SVar w3 w2.heap.size (Yd.row b y) := by rw [hw3]; exact snew _ _ _
    have ly3 : LocM w1 b c r G w3 w2.heap.size := by rw [hw3]; exact hL.has.fresh _
    have hv3 := (HV1.out.later hb2).later hb3
    have hch := hL.ch
    rw [← hL.vers] at hch
    obtain ⟨g1, g2, g3, g4⟩ := hL.has.ge
    have hzv := HV1.out.lt
    have hdo := do_any w3 b 14 #[.pointer (some ⟨w2.heap.size, 0, none⟩), .pointer (some ⟨w.heap.size, 0, none⟩)] _ ent_14 (chains1_any hE3 hL.ym (by omega) hver hL.n hch hL.hs hy3 ly3 v (hv3.cell (i := 0) rfl) ⟨hv3.lt, by simp only [List.mem_cons, List.not_mem_nil, or_false]; omega⟩)
    have HF : Hid (∀ w4, ButN [b, c, r] w3.heap.size w3 w4 → Below w.heap.size w w4) := fun w4 h4 => HB1.out.trans ((hE3.butBelow h4).mono HB1.out.size)
    have c0 := hy3.cell (i := 0) rfl
    simp only [Yd.row] at hw3
    unfold Yd.v
    have HW3 := Lib.hid hw3.symm
    clear hl hL hb2 hb3 hE3 hy3 ly3 hv3 hch g1 g2 g3 g4 hzv hw3 hver hlen
    go_wp2_with (first | rw [HW3.out] | fail)
    refine hdo.mono ?_
    rintro e w4 ⟨u, rfl, rfl, hb⟩
    have HE := Lib.hid (HF.out w4 hb)
    clear hdo hb HF
    go_wp2
    go_ret
    exact ⟨rfl, HE.out⟩
  · have haw2 := awake_any w1 (HT.out.below hb01)
    have HF : Hid (∀ w4, Below w1.heap.size w1 w4 → Below w.heap.size w w4) := fun w4 h4 => hb01.trans (h4.mono hb01.size)
    clear haw hb1 hb01
    by_cases hn1 : 1 ≤ n
    · have i1 : ¬ ((n : Int) < 1) := by omega
      have i2 : (40 : Int) < (n : Int) := by omega
      go_wp2_with fail
      refine haw2.mono ?_
      rintro e w4 ⟨rfl, hb⟩
      have HE := Lib.hid (HF.out w4 hb)
      clear haw2 hb HF
      go_wp2
      go_ret
      exact ⟨rfl, HE.out⟩
    · have i1 : (n : Int) < 1 := by omega
      go_wp2_with fail
      refine haw2.mono ?_
      rintro e w4 ⟨rfl, hb⟩
      have HE := Lib.hid (HF.out w4 hb)
      clear haw2 hb HF
      go_wp2
      go_ret
      exact ⟨rfl, HE.out⟩
theorem chainsLaw (a0 : Option Addr) (l0 : List Int) (cap0 : Nat) {W : World} (h0 : BysI W a0 l0) (v : Int) (_hv : (Lit.int .i64 v).wf = true) (_W : World) (hT : TabAt W) :
    Calls Tryd.prog 3 #[.slice a0 l0.length cap0, .int .i64 v] W fun e w' => e = .returned (.bool true) ∧ Below W.heap.size W w' := by
  obtain ⟨bs, e, hb⟩ := h0.nat
  rw [← e]
  exact chains_law W hT a0 cap0 bs hb v
end Go.Proofs.YtbcpdkmbbgcfbaaDoor
