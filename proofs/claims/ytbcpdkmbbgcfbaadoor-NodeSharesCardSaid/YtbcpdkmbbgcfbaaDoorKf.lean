/- NodeShares's law. Condition: the library's table stands. -/
import Derived.Test.YtbcpdkmbbgcfbaaDoorKh
namespace Go.Proofs.YtbcpdkmbbgcfbaaDoor
open Go.RowKit Go.Op
set_option maxRecDepth 100000

theorem as25_yes (a : Option Addr) (n c : Nat) (w : World) : (Instr.typeAssert (.iface 25 (.slice a n c)) 20 25 true).run Tryd.prog w = .ok (.tuple #[.slice a n c, .bool true]) w := by kernel_rfl
theorem sh_cl {w0 : World} {b c r : Nat} {G : List (Nat × List Value)} {m : M} {J : List Job} {l : List (Int × Rv × Int)} {vs : List Int} {zy n : Nat} {hd p1 p2 : Int} {vars : List (Nat × List Value)} {y : Yd} (hC : Cutters 26 R26 l vs zy hd vars n J) (hlen : J.length = n) (hzy : (zy, Yd.row b y) ∈ vars) (hn : y.n = ⟨⟨#[107]⟩, hd, [p1, p2]⟩) (hc : m.count ≤ 100000) {p : Nat} {jb : Job} (hjb : J[p]? = some jb) {xb : Nat} {t : Value} :
    ∀ w1 s1, SysE w0 b c r xb 1 t G w1 m s1 → (∀ p, p ∈ vars → SVar w1 p.1 p.2) → (∀ a, (jb.p.run s1 m).1 = some a → jb.good a) → Calls Tryd.prog jb.fk (#[.pointer (some ⟨xb, 1, none⟩)] ++ jb.caps) w1 fun e w' => Ev w0 b c r xb 1 t G w1 jb.R (jb.p.run s1 m) e w' := by
  intro w1 s1 hS hv hg
  have hp := (List.getElem?_eq_some_iff.1 hjb).1
  obtain ⟨zl, v, e1, e2, e3⟩ := hC p jb (by omega) hjb
  subst e1
  exact clo26 hS hc (hv _ hzy) hn ((hv _ e2).cell (i := 0) rfl) hg
theorem jobC_done {rep : Nat → M → Ow → Prop} {fk : FuncId} {R : List (Nat × List Value) → Option (List Int × Int) → Value → Prop} {l : List (Int × Rv × Int)} {ix : Nat → Nat} {k zy zl : Nat} {v hd : Int} {G : List (Nat × List Value)} {s : Ow} {x : Mach} (h : Mc rep (jobC fk R l ix k v zy zl hd) G s x) (hf : x.fin = true) : ∃ a : Option (List Int × Int), R G a x.out ∧ CutFin l ix k a s := h.done hf
theorem toldTo_le {l : List (Int × Rv × Int)} {vs : List Int} {s : Ow} {k : Nat} {f : Nat → Option (List Int × Int)} (hf : ∀ o, o < k → CutFin l (ixs l vs) o (f o) s) (hn : (flat l).Nodup) : (toldTo f k).length ≤ 2 * l.length := by
  rw [← flat_length]
  refine nodup_le (toldTo_nd hf hn k (Nat.le_refl _)) fun c hc => ?_
  obtain ⟨o, o1, o2⟩ := toldTo_mem.1 hc
  obtain ⟨p, x, s1, x1, x2⟩ := ((hf o o1).mem c).1 o2
  exact flat_mem.2 ⟨x, List.mem_of_getElem? x1, x2⟩
theorem min_step {ix : Nat → Nat} {L N i q : Nat} (hq : q = min (ix i + 1) L) (h1 : 1 ≤ N) (h2 : N ≤ L) (h3 : i = 0 → N = L) (h4 : ∀ o, o < i → N ≤ ix o + 1) (h5 : 1 ≤ i → ∃ o, o < i ∧ N = min (ix o + 1) L) :
    1 ≤ min N q ∧ min N q ≤ L ∧ (∀ o, o < i + 1 → min N q ≤ ix o + 1) ∧ ∃ o, o < i + 1 ∧ min N q = min (ix o + 1) L := by
  have a1 : min N q ≤ N := Nat.min_le_left _ _
  have a2 : min N q ≤ q := Nat.min_le_right _ _
  have a3 : q ≤ ix i + 1 := by rw [hq]; exact Nat.min_le_left _ _
  have a4 : 1 ≤ q := by rw [hq]; exact Nat.le_min.2 ⟨Nat.succ_le_succ (Nat.zero_le _), Nat.le_trans h1 h2⟩
  refine ⟨Nat.le_min.2 ⟨h1, a4⟩, Nat.le_trans a1 h2, fun o ho => ?_, ?_⟩
  · rcases Nat.lt_or_ge o i with h | h
    · exact Nat.le_trans a1 (h4 o h)
    · have e : o = i := Nat.le_antisymm (Nat.le_of_lt_succ ho) h
      rw [e]
      exact Nat.le_trans a2 a3
  · rcases Nat.eq_zero_or_pos i with e | e
    · refine ⟨i, Nat.lt_succ_self i, ?_⟩
      have : q ≤ N := by rw [h3 e, hq]; exact Nat.min_le_right _ _
      rw [Nat.min_eq_right this, hq]
    · rcases Nat.le_total N q with h | h
      · obtain ⟨o, o1, o2⟩ := h5 e
        exact ⟨o, Nat.lt_succ_of_lt o1, by rw [Nat.min_eq_left h]; exact o2⟩
      · exact ⟨i, Nat.lt_succ_self i, by rw [Nat.min_eq_right h, hq]⟩
/-- Within the loop that makes the machines of NodeShares. -/
def ShMake (w1 : World) (b c r : Nat) (G : List (Nat × List Value)) (m : M) (l : List (Int × Rv × Int)) (vs : List Int) (hd : Int) (zy : Nat) (yrow : List Value) (i : Nat) (la : Option Addr) (lc : Nat) (N : Nat) (W : World) : Prop :=
  ∃ (L : List Mach) (J : List Job) (vars : List (Nat × List Value)), Sr w1 b c r G J (Yo m l hd (ixs l vs) 100) m L (.slice la i lc) (fun _ => none) 0 W vars ∧ (zy, yrow) ∈ vars ∧ J.length = i ∧ JobsIx J ∧ Cutters 26 R26 l vs zy hd vars i J ∧ 1 ≤ N ∧ N ≤ l.length ∧ (i = 0 → N = l.length) ∧ (∀ o, o < i → N ≤ ixs l vs o + 1) ∧ (1 ≤ i → ∃ o, o < i ∧ N = min (ixs l vs o + 1) l.length)
/-- While the machines take their turns. -/
def ShGo (w1 : World) (b c r : Nat) (Gb : List (Nat × List Value)) (J : List Job) (rep : Nat → M → Ow → Prop) (rv : Value) (vars : List (Nat × List Value)) (k t : Nat) (W : World) : Prop :=
  ∃ (G : List (Nat × List Value)) (m : M) (L : List Mach) (s : Ow) (j : Nat), Sr w1 b c r G J rep m L rv s j W vars ∧ j ≤ t ∧ L.length = k ∧ ∀ z, z ∈ Gb → z ∈ G
/-- Behind the first machines' lists. -/
def ShOut (w1 : World) (b c r : Nat) (Gb : List (Nat × List Value)) (J : List Job) (rep : Nat → M → Ow → Prop) (rv : Value) (vars : List (Nat × List Value)) (l : List (Int × Rv × Int)) (vs : List Int) (k t i : Nat) (cv : Value) (W : World) : Prop :=
  ∃ (G : List (Nat × List Value)) (m : M) (L : List Mach) (s : Ow) (j : Nat) (f : Nat → Option (List Int × Int)), Sr w1 b c r G J rep m L rv s j W vars ∧ j ≤ t + 600 * i ∧ L.length = k ∧ (∀ z, z ∈ Gb → z ∈ G) ∧ CR w1 b c r G L rv vars W cv (toldTo f i) ∧ ∀ o, o < i → CutFin l (ixs l vs) o (f o) s
/-- While one machine goes on to its end. -/
def ShStep (w1 : World) (b c r : Nat) (Gb : List (Nat × List Value)) (J : List Job) (rep : Nat → M → Ow → Prop) (rv : Value) (vars : List (Nat × List Value)) (l : List (Int × Rv × Int)) (vs : List Int) (k t i kk : Nat) (cv : Value) (W : World) : Prop :=
  ∃ (G : List (Nat × List Value)) (m : M) (L : List Mach) (s : Ow) (j : Nat) (f : Nat → Option (List Int × Int)) (y : Mach), Sr w1 b c r G J rep m L rv s j W vars ∧ j ≤ t + 600 * i + kk ∧ L.length = k ∧ (∀ z, z ∈ Gb → z ∈ G) ∧ CR w1 b c r G L rv vars W cv (toldTo f i) ∧ (∀ o, o < i → CutFin l (ixs l vs) o (f o) s) ∧ L[i]? = some y ∧ (y.fin = false → kk ≤ y.s.e.told.length)
set_option maxHeartbeats 8000000 in
theorem shares_law (w : World) (hT : TabAt w) (a1 : Option Addr) (cap1 : Nat) (bs1 : List Nat) (hb1 : Bys w [] a1 bs1) (a2 : Option Addr) (cap2 : Nat) (bs2 : List Nat) (hb2 : Bys w [] a2 bs2) (a3 : Option Addr) (cap3 : Nat) (bs3 : List Nat) (hb3 : Bys w [] a3 bs3) :
    Calls Tryd.prog 6 #[.slice a1 bs1.length cap1, .slice a2 bs2.length cap2, .slice a3 bs3.length cap3] w fun e w' => e = .returned (.bool true) ∧ Below w.heap.size w w' := by
  have haw := awake_any w hT
  have HP := Lib.hid (⟨hT, hb1, hb2, hb3⟩ : _ ∧ _ ∧ _ ∧ _)
  obtain ⟨n1, hn1⟩ : ∃ n, n = bs1.length := ⟨_, rfl⟩
  obtain ⟨n2, hn2⟩ : ∃ n, n = bs2.length := ⟨_, rfl⟩
  obtain ⟨n3, hn3⟩ : ∃ n, n = bs3.length := ⟨_, rfl⟩
  have HN := Lib.hid (⟨hn1, hn2, hn3⟩ : _ ∧ _ ∧ _)
  rw [← hn1, ← hn2, ← hn3]
  clear hT hb1 hb2 hb3 hn1 hn2 hn3
  go_enter Tryd.func6, Tryd.ntmps6
  go_wp2_with fail
  refine haw.mono ?_
  rintro e w1 ⟨rfl, hb1⟩
  have HB1 := Lib.hid hb1
  clear haw hb1
  by_cases hin : (1 ≤ n1 ∧ n1 ≤ 40) ∧ (1 ≤ n2 ∧ n2 ≤ 8) ∧ n3 ≤ 600
  · obtain ⟨⟨j1, j2⟩, ⟨j3, j4⟩, j5⟩ := hin
    have i1 : ¬ ((n1 : Int) < 1) := by omega
    have i2 : ¬ (40 < (n1 : Int)) := by omega
    have i3 : ¬ ((n2 : Int) < 1) := by omega
    have i4 : ¬ (8 < (n2 : Int)) := by omega
    have i5 : ¬ (600 < (n3 : Int)) := by omega
    have hl := lay_any w1 (HP.out.1.below HB1.out) (a := a1) (cap := cap1) bs1 (by rw [← HN.out.1]; omega) (HP.out.2.1.later HB1.out)
    rw [← HN.out.1] at hl
    go_wp2_with fail
    refine hl.mono ?_
    rintro e w2 ⟨⟨b, c, r, G, m, y, hd, p1, p2, l, rfl, hL⟩, hb2⟩
    have hlen := hL.len
    have hver := laid_ver hL HP.out.2.1.le (by rw [← HN.out.1]; omega)
    rw [← HN.out.1] at hlen
    obtain ⟨w3, hw3⟩ : ∃ W, W = w2.alloc (.cells (Yd.row b y).toArray 29) := ⟨_, rfl⟩
    obtain ⟨vs, hvs⟩ : ∃ vs : List Int, vs = bs2.map fun (x : Nat) => (x : Int) := ⟨_, rfl⟩
    obtain ⟨cvs, hcvs⟩ : ∃ cvs, cvs = l.map fun x => x.2.1.ver := ⟨_, rfl⟩
    obtain ⟨zy, hzy⟩ : ∃ z, z = w2.heap.size := ⟨_, rfl⟩
    have hb3 : Below w2.heap.size w2 w3 := by rw [hw3]; exact (Below.refl _ _).alloc (Nat.le_refl _) _
    have hbase := base_of hL.ym (by omega)
    have hcnt := hL.ym.cnt
    have hchn : y.ch.n = n1 := by
      have hn := hL.ch.n
      rw [ints_length, vers_length, List.length_reverse, ← HN.out.1] at hn
      exact hn
    have hcl : cvs.length = n1 := by rw [hcvs, List.length_map, hlen]
    have hcs := hL.ch
    rw [← hL.vers, ← hcvs] at hcs
    have sy3 : SVar w3 w2.heap.size (Yd.row b y) := by rw [hw3]; exact snew _ _ _
    have c5 : w3.cell? ⟨w2.heap.size, 5, none⟩ = some (.slice y.ch.a n1 y.ch.cap) := by
      have := sy3.cell (i := 5) rfl
      rw [hchn] at this
      exact this
    have hX0 : Hid (ShMake w1 b c r G m l vs hd zy (Yd.row b y) 0 none 0 n1 w3) := by
      refine ⟨[], [], [(zy, Yd.row b y)], ?_, List.mem_cons_self, rfl, fun i jb hi => (by simp at hi), fun o jb ho => (by omega), by omega, by omega, fun _ => hlen.symm, fun o ho => (by omega), fun h => (by omega)⟩
      refine Sr.start (hL.has.later hb3) (yo_start hL.ym.ch _ _ (by omega)) fun p hp => ?_
      simp only [List.mem_cons, List.not_mem_nil, or_false] at hp
      subst hp
      rw [hzy]
      exact ⟨by rw [hw3]; exact hL.has.fresh _, sy3⟩
    have HL := Lib.hid (⟨hL, hlen, hvs, hbase, hver⟩ : _ ∧ _ ∧ _ ∧ _ ∧ _)
    have HCh := Lib.hid (⟨hcvs, hcl, hcs, hchn⟩ : _ ∧ _ ∧ _ ∧ _)
    have HZ : Hid (w2.heap.size = zy) := hzy.symm
    have HBW : Hid (∀ G J rep m L rv s j W vars, Sr w1 b c r G J rep m L rv s j W vars → Below w.heap.size w W) := fun G J rep m L rv s j W vars h => HB1.out.trans (h.kw.cr.tm.has.ge.2.2.2.mono HB1.out.size)
    have HRg : Hid (∀ G' J rep m L rv s j W vars, Sr w1 b c r G' J rep m L rv s j W vars → (∀ z, z ∈ G → z ∈ G') → (zy, Yd.row b y) ∈ vars → W.cell? ⟨zy, 5, none⟩ = some (.slice y.ch.a n1 y.ch.cap) ∧ ∀ v : Int, Calls Tryd.prog 18 #[.slice y.ch.a n1 y.ch.cap, .int .i64 v] W fun e w' => e = .returned (.int .i64 (leftN l v : Int)) ∧ W = w') := fun G' J rep m L rv s j W vars h hG hv => by
      refine ⟨?_, fun v => ?_⟩
      · have := (h.vs _ hv).2.cell (i := 5) rfl
        rw [hchn] at this
        exact this
      · have hcs2 := hcs.more hG
        have := refLeft_any W y.ch.a y.ch.cap cvs (by omega) (fun hne => by
          rcases hcs2.row with e | ⟨g, o, rr, e, hm, hr⟩
          · exact absurd (List.length_eq_zero_iff.1 (by rw [← ints_length, e]; rfl)) hne
          · obtain ⟨m0, -, -, -, -, h5⟩ := h.kw.cr.tm.has
            exact ⟨g, o, e, fun j u hj => (h5 g rr hm).1.at_ _ _ (hr j u hj)⟩) v
        rw [hcl, hcvs, leftOf_is] at this
        exact this
    simp only [Yd.row] at hw3
    unfold Yd.v
    have HW3 := Lib.hid hw3.symm
    clear hl hL hb2 hw3 hb3 hbase hcnt hlen hvs hzy hcvs hcl hcs hchn sy3 hver
    go_wp2_with (first | rw [HW3.out] | fail)
    rw [HZ.out]
    clear c5
    go_loopw [9, 10, 11] (fun rv nv iv wr => ∃ (i : Nat) (la : Option Addr) (lc : Nat) (N : Nat), i ≤ n2 ∧ iv = .int .i64 (i : Int) ∧ nv = .int .i64 (N : Int) ∧ rv = .slice la i lc ∧ Hid (ShMake w1 b c r G m l vs hd zy (Yd.row b y) i la lc N wr)) (fun _ _ iv _ => n2 - (intOf iv).toNat)
    case atStart => exact ⟨0, none, 0, n1, by omega, rfl, rfl, rfl, hX0⟩
    case round =>
      obtain ⟨i, la, lc, Nn, hi, rfl, rfl, rfl, hR⟩ := hrel
      by_cases hlt : i < n2
      · have k1 : (i : Int) < (n2 : Int) := by omega
        obtain ⟨L, J, vars, hS, hzy, hJl, hJx, hCu, hN1, hN2, hN3, hN4, hN5⟩ := hR.out
        obtain ⟨x, hx⟩ : ∃ x, bs2[i]? = some x := ⟨_, List.getElem?_eq_getElem (by rw [← HN.out.2.1]; exact hlt)⟩
        obtain ⟨g2, o2, ea2, cx, hx2⟩ := HP.out.2.2.1.at_ (HBW.out _ _ _ _ _ _ _ _ _ _ hS) hx
        have hx3 : (x : Int) ≤ 255 := by omega
        obtain ⟨wz, hwz⟩ : ∃ W, W = wr.alloc (.cells #[.int .i64 (x : Int)] 3) := ⟨_, rfl⟩
        obtain ⟨zl, hzl⟩ : ∃ z, z = wr.heap.size := ⟨_, rfl⟩
        have hS2 := hS.newVar [.int .i64 (x : Int)] 3
        rw [show ([Value.int .i64 (x : Int)] : List Value).toArray = #[.int .i64 (x : Int)] from rfl, ← hwz, ← hzl] at hS2
        obtain ⟨c5, hlf⟩ := HRg.out _ _ _ _ _ _ _ _ _ _ hS2 (fun z hz => hz) (List.mem_cons_of_mem _ hzy)
        have hlf := hlf (x : Int)
        have cz : wz.cell? ⟨wr.heap.size, 0, none⟩ = some (.int .i64 (x : Int)) := by rw [← hzl]; exact (hS2.vs (zl, [.int .i64 (x : Int)]) (by simp)).2.cell (i := 0) rfl
        have y0 : wz.cell? ⟨zy, 0, none⟩ = some (.pointer (some ⟨b, 0, none⟩)) := (hS2.vs (zy, Yd.row b y) (by simp [hzy])).2.cell (i := 0) rfl
        have HWz := Lib.hid hwz.symm
        have hnm := newmach_any (b := b) (jobC 26 R26 l (ixs l vs) i (x : Int) zy zl hd).f wz ⟨_, _, rfl⟩
        have hvi : vs[i]? = some (x : Int) := by rw [HL.out.2.2.1, List.getElem?_map, hx]; rfl
        have hlx := leftN_le l (x : Int)
        have hix : ixs l vs i = ixv l (x : Int) := ixs_at hvi
        obtain ⟨q, hq⟩ : ∃ q, q = leftN l (x : Int) := ⟨_, rfl⟩
        rw [← hq] at hlf
        have hq40 : (q : Int) ≤ 40 := by have := HL.out.2.1; omega
        have hN40 : (Nn : Int) ≤ 40 := by have := HL.out.2.1; omega
        have HS3 := Lib.hid (⟨hS2, hzy, hJl, hJx, hCu, hN1, hN2, hN3, hN4, hN5, hvi, hq, hix, hlx⟩ : _ ∧ _ ∧ _ ∧ _ ∧ _ ∧ _ ∧ _ ∧ _ ∧ _ ∧ _ ∧ _ ∧ _ ∧ _ ∧ _)
        have HZl : Hid (wr.heap.size = zl) := hzl.symm
        unfold Job.f jobC at hnm
        subst ea2
        clear hX0 hi hS hS2 hzy hJl hJx hCu hN1 hN2 hN3 hN4 hN5 hx hx2 hwz hR hvi hzl hq hix hlx
        go_wp2_with (first | rw [HWz.out] | fail)
        rw [HZl.out]
        refine hlf.mono ?_
        rintro e w4 ⟨rfl, rfl⟩
        clear hlf
        go_wp2_with fail
        refine hnm.mono ?_
        rintro e w5 ⟨rfl, hw5⟩
        have hz5 : w5.heap.size = wz.heap.size + 1 := by rw [hw5]; simp
        have HW5 := Lib.hid hw5
        have HO : Hid ((w5.alloc (.cells #[.pointer (some ⟨wz.heap.size, 0, none⟩)] 59)).ownsRow w1.heap.size 59 1 (.slice la i lc) (ptrs L).length (ptrs L) ∧ w1.heap.size ≤ w5.heap.size ∧ L.length = i) := by
          obtain ⟨hC, hzy, hJl, -⟩ := HS3.out
          have hLi : L.length = i := by rw [hC.kw.ln, hJl]
          have hb : Below wz.heap.size wz (w5.alloc (.cells #[.pointer (some ⟨wz.heap.size, 0, none⟩)] 59)) := by
            rw [hw5]
            exact ((Below.refl _ _).alloc (Nat.le_refl _) _).alloc (by simp) _
          have := (hC.kw.cr.later hb).row
          refine ⟨?_, ?_, hLi⟩
          · rw [ptrs_len]; exact this
          · have := hC.kw.cr.tm.has.ge.2.2.2.size; omega
        clear hnm hw5 hz5 y0 cz cx c5
        go_wp2_with (at_builtin; refine append_ptr rfl (.tmp 79) (.tmp 84) rfl w1.heap.size (.slice la i lc) (ptrs L) wz.heap.size rfl HO.out.1 w5.heap.size 1 rfl (by simp [go_sem]) (by rw [ptrs_len]; have := HO.out.2; omega) (by have := HO.out.2; simp; omega) ?_; intro v' w6 g1 g2 g3; have GG := Lib.hid (⟨g1, g2, g3⟩ : _ ∧ _ ∧ _); clear g1 g2 g3)
        obtain ⟨g1, g2, g3⟩ := GG.out
        obtain ⟨hS2, hzy, hJl, hJx, hCu, hN1, hN2, hN3, hN4, hN5, hvi, hq, hix, hlx⟩ := HS3.out
        rw [ptrs_len] at g1
        obtain ⟨la', lc', ev⟩ := own_slice g1
        rw [HO.out.2.2] at ev
        subst ev
        have hmin : min (Nn : Int) (q : Int) = ((min Nn q : Nat) : Int) := by clear hN5 hN4 hN3; omega
        have hqd : q = min (ixs l vs i + 1) l.length := by rw [hq, hix]; rfl
        have hE : Hid (ShMake w1 b c r G m l vs hd zy (Yd.row b y) (i + 1) la' lc' (min Nn q) w6) := by
          have hJl2 := hJl
          subst hJl2
          obtain ⟨ms1, ms2, ms3, ms4⟩ := min_step hqd hN1 hN2 hN3 hN4 hN5
          clear hN1 hN2 hN3 hN4 hN5
          refine ⟨_, _, (zl, [.int .i64 (x : Int)]) :: vars, hS2.add (jobC 26 R26 l (ixs l vs) J.length (x : Int) zy zl hd) ?_ ⟨_, _, rfl⟩ (w2 := w5.alloc (.cells #[.pointer (some ⟨wz.heap.size, 0, none⟩)] 59)) ?_ g1 g2 g3, List.mem_cons_of_mem _ hzy, by simp, hJx.snoc rfl rfl (jobC_ok26 _ _ _ _ _ _ _), fun o jx ho hjx => ?_, ms1, ms2, fun e => absurd e (Nat.succ_ne_zero _), ms3, fun _ => ms4⟩
          · exact og_cut HL.out.2.2.2.1 (fun e => by have := HL.out.2.1; rw [e] at this; simp at this; omega) (by rw [hix]; exact ixv_is _ _) (fun _ e => by cases e)
          · have : w5 = wz.alloc (machObj b (jobC 26 R26 l (ixs l vs) J.length (x : Int) zy zl hd).f) := HW5.out
            rw [this]
            exact (Below.refl _ _).alloc (Nat.le_refl _) _
          · rw [List.getElem?_append] at hjx
            split at hjx
            · rename_i hlt2
              obtain ⟨zl2, v2, e1, e2, e3⟩ := hCu o jx hlt2 hjx
              exact ⟨zl2, v2, e1, List.mem_cons_of_mem _ e2, e3⟩
            · obtain rfl : o = J.length := by omega
              rw [Nat.sub_self] at hjx
              cases hjx
              exact ⟨zl, (x : Int), rfl, List.mem_cons_self, hvi⟩
        clear GG HO HS3 g1 g2 g3 hS2 hzy hJl hJx hCu hN1 hN2 hN3 hN4 hN5 hvi hq hix hlx
        exact ⟨⟨i + 1, la', lc', _, by omega, rfl, by rw [hmin], rfl, hE⟩, by simp only [intOf]; omega⟩
      · obtain rfl : i = n2 := by omega
        have k1 : ¬ (i : Int) < (i : Int) := by omega
        obtain ⟨L, J, vars, hS, hzy, hJl, hJx, hCu, hN1, hN2, hN3, hN4, hN5⟩ := hR.out
        have HJ := Lib.hid (⟨hJx, hCu, hzy, hJl, hN1, hN2, hN4, hN5 j3⟩ : _ ∧ _ ∧ _ ∧ _ ∧ _ ∧ _ ∧ _ ∧ _)
        have HX0 : Hid (ShGo w1 b c r G J (Yo m l hd (ixs l vs) 100) (.slice la i lc) vars i 0 wr) := ⟨G, m, L, _, 0, hS, Nat.le_refl _, hS.kw.ln.trans hJl, fun z hz => hz⟩
        have hN40 : (Nn : Int) ≤ 40 := by have := HL.out.2.1; omega
        clear hX0 hi hS hzy hJl hJx hCu hN1 hN2 hN3 hN4 hN5 hR hlt
        go_wp2_with fail
        go_loopw [13] (fun jv wr => ∃ t : Nat, jv = .int .i64 (t : Int) ∧ t ≤ n3 ∧ Hid (ShGo w1 b c r G J (Yo m l hd (ixs l vs) 100) (.slice la i lc) vars i t wr)) (fun jv _ => n3 - (intOf jv).toNat)
        case atStart => exact ⟨0, rfl, Nat.zero_le _, HX0⟩
        case round =>
          clear HX0
          obtain ⟨t, rfl, ht, hR⟩ := hrel
          by_cases hlt3 : t < n3
          · have k3 : (t : Int) < (n3 : Int) := by omega
            obtain ⟨G1, m1, L1, s1, j, hS, hjt, hL1, hGb⟩ := hR.out
            obtain ⟨xn, hxn⟩ : ∃ x, bs3[t]? = some x := ⟨_, List.getElem?_eq_getElem (by rw [← HN.out.2.2]; exact hlt3)⟩
            obtain ⟨g3, o3, ea3, cx, hx2⟩ := HP.out.2.2.2.at_ (HBW.out _ _ _ _ _ _ _ _ _ _ hS) hxn
            have hx3 : (xn : Int) ≤ 255 := by omega
            obtain ⟨p, hp⟩ : ∃ p, p = xn % i := ⟨_, rfl⟩
            have hpn : p < i := by rw [hp]; exact Nat.mod_lt _ (by omega)
            obtain ⟨xm, hxm⟩ : ∃ x, L1[p]? = some x := ⟨_, List.getElem?_eq_getElem (by rw [hL1]; exact hpn)⟩
            obtain ⟨jb, hjb⟩ : ∃ jb, J[p]? = some jb := ⟨_, List.getElem?_eq_getElem (by rw [HJ.out.2.2.2.1]; exact hpn)⟩
            obtain ⟨gr, eg, hcr⟩ := row_at hS.kw.cr.row (k := p) (by rw [hL1]; exact hpn) (u := .pointer (some ⟨xm.xb, 0, none⟩)) (by simp [ptrs, hxm])
            have hm1 : m1.count ≤ 100000 := yo_cnt _ _ _ hS.kw.rp (by omega)
            have hgo := hS.gone HJ.out.1 hxm hjb yo_mono yo_cnt (by omega) (sh_cl HJ.out.2.1 HJ.out.2.2.2.1 HJ.out.2.2.1 HL.out.1.n hm1 hjb)
            have hat := fun W => at_58' gr i lc p hpn ((xn : Int) % (i : Int)) (by rw [hp]; rfl) W
            have HF : Hid (∀ e G' m' s' y' W', Gone w1 b c r G1 wr J (Yo m l hd (ixs l vs) 100) L1 (.slice la i lc) j p vars xm s1 e W' G' m' s' y' → ShGo w1 b c r G J (Yo m l hd (ixs l vs) 100) (.slice la i lc) vars i (t + 1) W') := fun e G' m' s' y' W' h => ⟨G', m', _, s', j + 1, h.sr, by omega, by rw [List.length_set]; exact hL1, fun z hz => h.gro z (hGb z hz)⟩
            subst ea3 eg
            clear hR hS hjt hL1 hGb hxn hx2 hp hpn hxm hjb hm1
            go_wp2_with fail
            refine hgo.mono ?_
            rintro e w7 ⟨G', m', s', y', q1⟩
            have HE := Lib.hid (HF.out _ _ _ _ _ _ q1)
            obtain rfl := q1.ret
            clear hgo q1 HF
            go_wp2_with fail
            exact ⟨⟨t + 1, rfl, by omega, HE.out⟩, by simp only [intOf]; omega⟩
          · obtain rfl : t = n3 := by omega
            have k3 : ¬ (t : Int) < (t : Int) := by omega
            have HX1 : Hid (ShOut w1 b c r G J (Yo m l hd (ixs l vs) 100) (.slice la i lc) vars l vs i t 0 (.slice none 0 0) wr) := by
              obtain ⟨G1, m1, L1, s1, j, hS, hjt, hL1, hGb⟩ := hR.out
              exact ⟨G1, m1, L1, s1, j, fun _ => none, hS, by omega, hL1, hGb, CR.nil, fun o ho => (by omega)⟩
            clear hR ht hlt3
            go_wp2_with fail
            go_loopw [14, 15] (fun cv jv wr => ∃ (e : Nat) (ca : Option Addr) (cn cc : Nat), jv = .int .i64 (e : Int) ∧ cv = .slice ca cn cc ∧ e ≤ i ∧ Hid (ShOut w1 b c r G J (Yo m l hd (ixs l vs) 100) (.slice la i lc) vars l vs i t e (.slice ca cn cc) wr)) (fun _ jv _ => i - (intOf jv).toNat)
            case atStart => exact ⟨0, none, 0, 0, rfl, rfl, Nat.zero_le _, HX1⟩
            case round =>
              clear HX1
              obtain ⟨e, ca, cn, cc, rfl, rfl, he, hR⟩ := hrel
              by_cases hlt4 : e < i
              · have k4 : (e : Int) < (i : Int) := by omega
                have HX2 : Hid (ShStep w1 b c r G J (Yo m l hd (ixs l vs) 100) (.slice la i lc) vars l vs i t e 0 (.slice ca cn cc) wr) := by
                  obtain ⟨G1, m1, L1, s1, j, f, hS, hjt, hL1, hGb, hCR, hCF⟩ := hR.out
                  obtain ⟨xm, hxm⟩ : ∃ x, L1[e]? = some x := ⟨_, List.getElem?_eq_getElem (by rw [hL1]; exact hlt4)⟩
                  exact ⟨G1, m1, L1, s1, j, f, xm, hS, by omega, hL1, hGb, hCR, hCF, hxm, fun _ => Nat.zero_le _⟩
                clear hR he
                obtain ⟨wo, hwo⟩ : ∃ wo, wo = wr := ⟨_, rfl⟩
                subst hwo
                go_wp2_with fail
                go_loopw [16] (fun jv wr => ∃ kk : Nat, jv = .int .i64 (kk : Int) ∧ kk ≤ 600 ∧ Hid (ShStep w1 b c r G J (Yo m l hd (ixs l vs) 100) (.slice la i lc) vars l vs i t e kk (.slice ca cn cc) wr)) (fun jv _ => 600 - (intOf jv).toNat)
                case atStart => exact ⟨0, rfl, Nat.zero_le _, HX2⟩
                case round =>
                  clear HX2
                  obtain ⟨kk, rfl, hkk, hR⟩ := hrel
                  obtain ⟨G1, m1, L1, s1, j, f, y3, hS, hjt, hL1, hGb, hCR, hCF, hyy, hko⟩ := hR.out
                  obtain ⟨jb, hjb⟩ : ∃ jb, J[e]? = some jb := ⟨_, List.getElem?_eq_getElem (by rw [HJ.out.2.2.2.1]; exact hlt4)⟩
                  obtain ⟨zl, vl, ejb, -⟩ := HJ.out.2.1 e jb hlt4 hjb
                  subst ejb
                  obtain ⟨gr, eg, hcr⟩ := row_at hS.kw.cr.row (k := e) (by rw [hL1]; exact hlt4) (u := .pointer (some ⟨y3.xb, 0, none⟩)) (by simp [ptrs, hyy])
                  have hat := fun W => at_58' gr i lc e hlt4 (e : Int) rfl W
                  subst eg
                  by_cases hgo2 : kk < 600 ∧ y3.fin = false
                  · obtain ⟨hk6, hfin⟩ := hgo2
                    have k7 : (kk : Int) < 600 := by omega
                    have hen := hS.kw.cr.tm.ended hyy
                    rw [hfin] at hen
                    have hm1 : m1.count ≤ 100000 := yo_cnt _ _ _ hS.kw.rp (by omega)
                    have hgo := hS.gone HJ.out.1 hyy hjb yo_mono yo_cnt (by omega) (sh_cl HJ.out.2.1 HJ.out.2.2.2.1 HJ.out.2.2.1 HL.out.1.n hm1 hjb)
                    have HF : Hid (∀ e9 G' m' s' y' W', Gone w1 b c r G1 wr J (Yo m l hd (ixs l vs) 100) L1 (.slice (some ⟨gr, 0, none⟩) i lc) j e vars y3 s1 e9 W' G' m' s' y' → ShStep w1 b c r G J (Yo m l hd (ixs l vs) 100) (.slice (some ⟨gr, 0, none⟩) i lc) vars l vs i t e (kk + 1) (.slice ca cn cc) W') := fun e9 G' m' s' y' W' h => ⟨G', m', _, s', j + 1, f, y', h.sr, by omega, by rw [List.length_set]; exact hL1, fun z hz => h.gro z (hGb z hz), hCR.gone h, fun o ho => (hCF o ho).rely (by
                        obtain ⟨jk, hjk⟩ : ∃ jk, J[o]? = some jk := ⟨_, List.getElem?_eq_getElem (by rw [HJ.out.2.2.2.1]; omega)⟩
                        have := h.gu o jk (by omega) hjk
                        rw [(HJ.out.1 o jk hjk).1] at this
                        exact this), List.getElem?_set_self (by rw [hL1]; exact hlt4), fun hf => by have := (h.told hf).2; have := hko hfin; omega⟩
                    clear hR hS hjt hL1 hGb hCR hCF hyy hko hfin hm1 hkk hjb
                    go_wp2_with fail
                    refine hen.mono ?_
                    rintro e9 w7 ⟨rfl, rfl⟩
                    clear hen
                    go_wp2_with fail
                    refine hgo.mono ?_
                    rintro e9 w8 ⟨G', m', s', y', q1⟩
                    have HE := Lib.hid (HF.out _ _ _ _ _ _ q1)
                    obtain rfl := q1.ret
                    clear hgo q1 HF
                    go_wp2_with fail
                    exact ⟨⟨kk + 1, rfl, by omega, HE.out⟩, by simp only [intOf]; omega⟩
                  · have hfin : y3.fin = true := by
                      cases hf : y3.fin with
                      | true => rfl
                      | false =>
                        have h1 := hko hf
                        have h2 := (hS.kw.ms e y3 _ hyy hjb).short (n := 201) (cut_le 40 hd vl) hf
                        exact absurd ⟨by omega, hf⟩ hgo2
                    by_cases hk6 : kk < 600
                    · have k7 : (kk : Int) < 600 := by omega
                      have hen := hS.kw.cr.tm.ended hyy
                      rw [hfin] at hen
                      obtain ⟨a, ho, hfc⟩ := jobC_done (hS.kw.ms e y3 _ hyy hjb) hfin
                      obtain ⟨xx, sl, hxx, hin, hout⟩ := ho
                      have hfc2 : CutFin l (ixs l vs) e a s1 := hfc
                      obtain ⟨cs, hcs, -⟩ := id hfc2
                      rw [hxx] at hcs
                      cases hcs
                      have hin2 : sl.In G1 (ints cs) := hin
                      have hout2 : y3.out = .iface 25 (.slice sl.a sl.n sl.cap) := by rw [hout, if_pos rfl]
                      have hou := hS.kw.cr.tm.out hyy
                      rw [hout2] at hou
                      obtain ⟨f', hf'⟩ : ∃ f' : Nat → Option (List Int × Int), f' = fun o => if o = e then a else f o := ⟨_, rfl⟩
                      have hTe : toldTo f' e = toldTo f e := toldTo_ext fun o ho => by rw [hf']; simp only; rw [if_neg (by omega)]
                      have hfe : f' e = some (cs, 0) := by rw [hf', ← hxx]; simp
                      have hCF2 : ∀ o, o < e + 1 → CutFin l (ixs l vs) o (f' o) s1 := fun o ho => by
                        by_cases ee : o = e
                        · rw [ee, hfe, ← hxx]; exact hfc2
                        · rw [hf']
                          simp only
                          rw [if_neg ee]
                          exact hCF o (by omega)
                      have hTT : toldTo f' (e + 1) = toldTo f e ++ cs := by rw [toldTo, hTe, hfe]; rfl
                      have hnd := toldTo_nd hCF2 HL.out.2.2.2.1.nd (e + 1) (Nat.le_refl _)
                      have hle := toldTo_le hCF2 HL.out.2.2.2.1.nd
                      rw [hTT] at hnd hle
                      have hle2 : (toldTo f e ++ cs).length ≤ 80 := by have := HL.out.2.1; omega
                      obtain ⟨nc, hnc⟩ : ∃ nc, nc = cs.length := ⟨_, rfl⟩
                      have hsn := hin2.n
                      rw [ints_length, ← hnc] at hsn
                      obtain ⟨sla, sln, slc⟩ := sl
                      simp only at hsn hou
                      subst hsn
                      obtain ⟨T, hT⟩ : ∃ T, T = toldTo f e := ⟨_, rfl⟩
                      rw [← hT] at hnd hle2 hCR hTT
                      have HX3 : Hid (Sr w1 b c r G1 J (Yo m l hd (ixs l vs) 100) m1 L1 (.slice (some ⟨gr, 0, none⟩) i lc) s1 j wr vars ∧ CR w1 b c r G1 L1 (.slice (some ⟨gr, 0, none⟩) i lc) vars wr (.slice ca cn cc) (T ++ cs.take 0)) := ⟨hS, by rw [List.take_zero, List.append_nil]; exact hCR⟩
                      have HTold := Lib.hid (⟨hin2, hnd, hle2, hnc, hTT, hCF2, hL1, hGb, hjt, hkk⟩ : _ ∧ _ ∧ _ ∧ _ ∧ _ ∧ _ ∧ _ ∧ _ ∧ _ ∧ _)
                      have hnc80 : (sln : Int) ≤ 80 := by rw [List.length_append] at hle2; omega
                      have a25 := as25_yes sla sln slc
                      clear hS hjt hL1 hGb hCR hCF hyy hko hfin hfc hxx hout hfc2 hin hin2 hout2 hf' hTe hfe hCF2 hTT hnd hle hle2 hnc hT hjb hR hkk hgo2
                      go_wp2_with fail
                      refine hen.mono ?_
                      rintro e9 w7 ⟨rfl, rfl⟩
                      clear hen
                      go_wp2_with fail
                      refine hou.mono ?_
                      rintro e9 w7 ⟨rfl, rfl⟩
                      clear hou hcr
                      go_wp2_with fail
                      go_loopw [14, 19] (fun cv jv wr => ∃ (jj : Nat) (ca : Option Addr) (cn cc : Nat), jv = .int .i64 (jj : Int) ∧ cv = .slice ca cn cc ∧ jj ≤ sln ∧ Hid (Sr w1 b c r G1 J (Yo m l hd (ixs l vs) 100) m1 L1 (.slice (some ⟨gr, 0, none⟩) i lc) s1 j wr vars ∧ CR w1 b c r G1 L1 (.slice (some ⟨gr, 0, none⟩) i lc) vars wr (.slice ca cn cc) (T ++ cs.take jj))) (fun _ jv _ => sln - (intOf jv).toNat)
                      case atStart => exact ⟨0, ca, cn, cc, rfl, rfl, Nat.zero_le _, HX3⟩
                      case round =>
                        clear HX3
                        obtain ⟨jj, ca2, cn2, cc2, rfl, rfl, hjj, hR3⟩ := hrel
                        by_cases hlt5 : jj < sln
                        · have k5 : (jj : Int) < (sln : Int) := by omega
                          obtain ⟨hin2, hnd, hle2, hnc, hTT, hCF2, hL1, hGb, hjt, hkk⟩ := HTold.out
                          obtain ⟨hS3, hC3⟩ := hR3.out
                          obtain ⟨c2, hc2⟩ : ∃ c2, cs[jj]? = some c2 := ⟨_, List.getElem?_eq_getElem (by omega)⟩
                          obtain ⟨gt, ot, eat, -⟩ := hS3.kw.cr.tm.has.slcell hin2 (ints_get hc2)
                          simp only at eat
                          have hcn : cn2 = (T ++ cs.take jj).length := by
                            obtain ⟨qa, qc, qe⟩ := hC3.val
                            simp only [Value.slice.injEq] at qe
                            exact qe.2.1
                          have htk : (cs.take jj).length = jj := by rw [List.length_take]; omega
                          have hcn2 : cn2 = T.length + jj := by rw [hcn, List.length_append, htk]
                          have hcn80 : (cn2 : Int) ≤ 80 := by rw [List.length_append] at hle2; omega
                          have hpos : (T ++ cs)[cn2]? = some c2 := by rw [hcn2, List.getElem?_append, if_neg (by omega), Nat.add_sub_cancel_left]; exact hc2
                          obtain ⟨wo, hwo⟩ : ∃ wo, wo = wr := ⟨_, rfl⟩
                          subst hwo
                          have HX4 : Hid (Below wo.heap.size wo wo) := Below.refl _ _
                          have HC := Lib.hid (⟨hS3, hC3, hc2, hcn, hcn2, hpos, hin2, hnd, htk, hle2⟩ : _ ∧ _ ∧ _ ∧ _ ∧ _ ∧ _ ∧ _ ∧ _ ∧ _ ∧ _)
                          subst eat
                          clear hin2 hnd hle2 hnc hTT hCF2 hL1 hGb hjt hkk hS3 hC3 hc2 hcn htk hcn2 hpos hR3 hjj
                          go_wp2_with fail
                          go_loopw [20] (fun jv wr => ∃ q : Nat, jv = .int .i64 (q : Int) ∧ q ≤ cn2 ∧ Hid (Below wo.heap.size wo wr)) (fun jv _ => cn2 - (intOf jv).toNat)
                          case atStart => exact ⟨0, rfl, Nat.zero_le _, HX4⟩
                          case round =>
                            clear HX4
                            obtain ⟨q, rfl, hq, hX5⟩ := hrel
                            obtain ⟨hS3, hC3, hc2, hcn, hcn2, hpos, hin2, hnd, htk, hle2⟩ := HC.out
                            have hS4 := hS3.later hX5.out
                            have hC4 := hC3.later hX5.out
                            obtain ⟨gt', ot', eat', ct⟩ := hS4.kw.cr.tm.has.slcell hin2 (ints_get hc2)
                            cases eat'
                            by_cases hlt6 : q < cn2
                            · have k6 : (q : Int) < (cn2 : Int) := by omega
                              obtain ⟨c1, hc1⟩ : ∃ c1, (T ++ cs.take jj)[q]? = some c1 := ⟨_, List.getElem?_eq_getElem (by omega)⟩
                              have hc1' : (T ++ cs)[q]? = some c1 := by
                                rw [List.getElem?_append] at hc1 ⊢
                                split at hc1
                                · rename_i h
                                  rw [if_pos h]; exact hc1
                                · rename_i h
                                  rw [if_neg h]
                                  rw [List.getElem?_take, if_pos (by omega)] at hc1
                                  exact hc1
                              have hne : ¬ c1 = c2 := fun ee => by
                                subst ee
                                have := (List.getElem?_inj (List.getElem?_eq_some_iff.1 hc1').1 hnd).1 (hc1'.trans hpos.symm)
                                omega
                              have hne2 : (c1 == c2) = false := by simpa using hne
                              obtain ⟨gc, capc, evc, hcell⟩ := hC4.cell (fun ee => by rw [ee] at hc1; simp at hc1)
                              simp only [Value.slice.injEq] at evc
                              have eca := evc.1
                              have cc1 := hcell q c1 hc1
                              have HBx : Hid (∀ W, Below wr.heap.size wr W → Below wo.heap.size wo W) := fun W hW => hX5.out.trans (hW.mono hX5.out.size)
                              subst eca
                              clear hS3 hC3 hc2 hcn hcn2 hpos hin2 hnd htk hle2 hS4 hC4 hc1 hc1' hne hcell evc hX5 hq
                              go_wp2_with fail
                              go_quiet (fail)
                              go_wp2_with fail
                              exact ⟨⟨q + 1, rfl, by omega, HBx.out _ (below_drewN _ _)⟩, by simp only [intOf]; omega⟩
                            · have k6 : ¬ (q : Int) < (cn2 : Int) := by omega
                              obtain ⟨w8, hw8⟩ : ∃ W, W = wr.alloc (.cells #[.int .i64 c2] 3) := ⟨_, rfl⟩
                              have hb8 : Below wr.heap.size wr w8 := by rw [hw8]; exact (Below.refl _ _).alloc (Nat.le_refl _) _
                              have hown := (hC4.later hb8).own
                              have cb8 : w8.cell? ⟨wr.heap.size, 0, none⟩ = some (.int .i64 c2) := by
                                have : SVar w8 wr.heap.size [.int .i64 c2] := by rw [hw8]; exact snew _ _ _
                                exact this.cell (i := 0) rfl
                              have hBs : w1.heap.size ≤ w8.heap.size := Nat.le_trans hS4.kw.cr.tm.has.ge.2.2.2.size hb8.size
                              have HO := Lib.hid (⟨hown, cb8, hBs, (by rw [List.length_append, htk]; rw [List.length_append] at hle2; omega : (T ++ cs.take jj).length ≤ 1000000)⟩ : _ ∧ _ ∧ _ ∧ _)
                              have HS4 := Lib.hid (⟨hS4, hC4, hb8, hc2⟩ : _ ∧ _ ∧ _ ∧ _)
                              have HW8 := Lib.hid hw8.symm
                              clear hS3 hC3 hc2 hcn hcn2 hpos hin2 hnd htk hle2 hS4 hC4 hX5 hq hw8 hb8 hown cb8 hBs
                              go_wp2_with (first | rw [HW8.out] | (at_builtin; refine append_num rfl (.tmp 159) (.tmp 164) rfl w1.heap.size (.slice ca2 cn2 cc2) (T ++ cs.take jj) c2 rfl HO.out.1 wr.heap.size 1 rfl HO.out.2.1 HO.out.2.2.2 HO.out.2.2.1 ?_; intro v' w9 g1 g2 g3; have GG := Lib.hid (⟨g1, g2, g3⟩ : _ ∧ _ ∧ _); clear g1 g2 g3))
                              obtain ⟨g1, g2, g3⟩ := GG.out
                              obtain ⟨hS4, hC4, hb8, hc2⟩ := HS4.out
                              obtain ⟨hS9, hC9⟩ := hC4.app hS4 hb8 g1 g2 g3
                              rw [List.append_assoc, show cs.take jj ++ [c2] = cs.take (jj + 1) by rw [List.take_add_one, hc2]; rfl] at hC9
                              obtain ⟨a9, cap9, ev9⟩ := hC9.val
                              subst ev9
                              have HE9 : Hid (Sr w1 b c r G1 J (Yo m l hd (ixs l vs) 100) m1 L1 (.slice (some ⟨gr, 0, none⟩) i lc) s1 j w9 vars ∧ CR w1 b c r G1 L1 (.slice (some ⟨gr, 0, none⟩) i lc) vars w9 (.slice a9 (T ++ cs.take (jj + 1)).length cap9) (T ++ cs.take (jj + 1))) := ⟨hS9, hC9⟩
                              clear GG HO HS4 g1 g2 g3 hS4 hC4 hb8 hc2 hS9 hC9
                              exact ⟨⟨jj + 1, a9, _, cap9, rfl, rfl, by omega, HE9⟩, by simp only [intOf]; omega⟩
                        · have k5 : ¬ (jj : Int) < (sln : Int) := by omega
                          obtain rfl : jj = sln := by omega
                          have HE : Hid (ShOut w1 b c r G J (Yo m l hd (ixs l vs) 100) (.slice (some ⟨gr, 0, none⟩) i lc) vars l vs i t (e + 1) (.slice ca2 cn2 cc2) wr) := by
                            obtain ⟨hin2, hnd, hle2, hnc, hTT, hCF2, hL1, hGb, hjt, hkk⟩ := HTold.out
                            obtain ⟨hS3, hC3⟩ := hR3.out
                            refine ⟨G1, m1, L1, s1, j, f', hS3, by omega, hL1, hGb, ?_, hCF2⟩
                            rw [hTT]
                            rw [hnc, List.take_length] at hC3
                            exact hC3
                          clear hR3 hjj HTold
                          go_wp2_with fail
                          exact ⟨⟨e + 1, ca2, cn2, cc2, rfl, rfl, by omega, HE⟩, by simp only [intOf]; omega⟩
                    · have k7 : ¬ (kk : Int) < 600 := by omega
                      obtain ⟨a, ho, hfc⟩ := jobC_done (hS.kw.ms e y3 _ hyy hjb) hfin
                      obtain ⟨xx, sl, hxx, hin, hout⟩ := ho
                      have hfc2 : CutFin l (ixs l vs) e a s1 := hfc
                      obtain ⟨cs, hcs, -⟩ := id hfc2
                      rw [hxx] at hcs
                      cases hcs
                      have hin2 : sl.In G1 (ints cs) := hin
                      have hout2 : y3.out = .iface 25 (.slice sl.a sl.n sl.cap) := by rw [hout, if_pos rfl]
                      have hou := hS.kw.cr.tm.out hyy
                      rw [hout2] at hou
                      obtain ⟨f', hf'⟩ : ∃ f' : Nat → Option (List Int × Int), f' = fun o => if o = e then a else f o := ⟨_, rfl⟩
                      have hTe : toldTo f' e = toldTo f e := toldTo_ext fun o ho => by rw [hf']; simp only; rw [if_neg (by omega)]
                      have hfe : f' e = some (cs, 0) := by rw [hf', ← hxx]; simp
                      have hCF2 : ∀ o, o < e + 1 → CutFin l (ixs l vs) o (f' o) s1 := fun o ho => by
                        by_cases ee : o = e
                        · rw [ee, hfe, ← hxx]; exact hfc2
                        · rw [hf']
                          simp only
                          rw [if_neg ee]
                          exact hCF o (by omega)
                      have hTT : toldTo f' (e + 1) = toldTo f e ++ cs := by rw [toldTo, hTe, hfe]; rfl
                      have hnd := toldTo_nd hCF2 HL.out.2.2.2.1.nd (e + 1) (Nat.le_refl _)
                      have hle := toldTo_le hCF2 HL.out.2.2.2.1.nd
                      rw [hTT] at hnd hle
                      have hle2 : (toldTo f e ++ cs).length ≤ 80 := by have := HL.out.2.1; omega
                      obtain ⟨nc, hnc⟩ : ∃ nc, nc = cs.length := ⟨_, rfl⟩
                      have hsn := hin2.n
                      rw [ints_length, ← hnc] at hsn
                      obtain ⟨sla, sln, slc⟩ := sl
                      simp only at hsn hou
                      subst hsn
                      obtain ⟨T, hT⟩ : ∃ T, T = toldTo f e := ⟨_, rfl⟩
                      rw [← hT] at hnd hle2 hCR hTT
                      have HX3 : Hid (Sr w1 b c r G1 J (Yo m l hd (ixs l vs) 100) m1 L1 (.slice (some ⟨gr, 0, none⟩) i lc) s1 j wr vars ∧ CR w1 b c r G1 L1 (.slice (some ⟨gr, 0, none⟩) i lc) vars wr (.slice ca cn cc) (T ++ cs.take 0)) := ⟨hS, by rw [List.take_zero, List.append_nil]; exact hCR⟩
                      have HTold := Lib.hid (⟨hin2, hnd, hle2, hnc, hTT, hCF2, hL1, hGb, hjt, hkk⟩ : _ ∧ _ ∧ _ ∧ _ ∧ _ ∧ _ ∧ _ ∧ _ ∧ _ ∧ _)
                      have hnc80 : (sln : Int) ≤ 80 := by rw [List.length_append] at hle2; omega
                      have a25 := as25_yes sla sln slc
                      clear hS hjt hL1 hGb hCR hCF hyy hko hfin hfc hxx hout hfc2 hin hin2 hout2 hf' hTe hfe hCF2 hTT hnd hle hle2 hnc hT hjb hR hkk hgo2
                      go_wp2_with fail
                      refine hou.mono ?_
                      rintro e9 w7 ⟨rfl, rfl⟩
                      clear hou hcr
                      go_wp2_with fail
                      go_loopw [14, 19] (fun cv jv wr => ∃ (jj : Nat) (ca : Option Addr) (cn cc : Nat), jv = .int .i64 (jj : Int) ∧ cv = .slice ca cn cc ∧ jj ≤ sln ∧ Hid (Sr w1 b c r G1 J (Yo m l hd (ixs l vs) 100) m1 L1 (.slice (some ⟨gr, 0, none⟩) i lc) s1 j wr vars ∧ CR w1 b c r G1 L1 (.slice (some ⟨gr, 0, none⟩) i lc) vars wr (.slice ca cn cc) (T ++ cs.take jj))) (fun _ jv _ => sln - (intOf jv).toNat)
                      case atStart => exact ⟨0, ca, cn, cc, rfl, rfl, Nat.zero_le _, HX3⟩
                      case round =>
                        clear HX3
                        obtain ⟨jj, ca2, cn2, cc2, rfl, rfl, hjj, hR3⟩ := hrel
                        by_cases hlt5 : jj < sln
                        · have k5 : (jj : Int) < (sln : Int) := by omega
                          obtain ⟨hin2, hnd, hle2, hnc, hTT, hCF2, hL1, hGb, hjt, hkk⟩ := HTold.out
                          obtain ⟨hS3, hC3⟩ := hR3.out
                          obtain ⟨c2, hc2⟩ : ∃ c2, cs[jj]? = some c2 := ⟨_, List.getElem?_eq_getElem (by omega)⟩
                          obtain ⟨gt, ot, eat, -⟩ := hS3.kw.cr.tm.has.slcell hin2 (ints_get hc2)
                          simp only at eat
                          have hcn : cn2 = (T ++ cs.take jj).length := by
                            obtain ⟨qa, qc, qe⟩ := hC3.val
                            simp only [Value.slice.injEq] at qe
                            exact qe.2.1
                          have htk : (cs.take jj).length = jj := by rw [List.length_take]; omega
                          have hcn2 : cn2 = T.length + jj := by rw [hcn, List.length_append, htk]
                          have hcn80 : (cn2 : Int) ≤ 80 := by rw [List.length_append] at hle2; omega
                          have hpos : (T ++ cs)[cn2]? = some c2 := by rw [hcn2, List.getElem?_append, if_neg (by omega), Nat.add_sub_cancel_left]; exact hc2
                          obtain ⟨wo, hwo⟩ : ∃ wo, wo = wr := ⟨_, rfl⟩
                          subst hwo
                          have HX4 : Hid (Below wo.heap.size wo wo) := Below.refl _ _
                          have HC := Lib.hid (⟨hS3, hC3, hc2, hcn, hcn2, hpos, hin2, hnd, htk, hle2⟩ : _ ∧ _ ∧ _ ∧ _ ∧ _ ∧ _ ∧ _ ∧ _ ∧ _ ∧ _)
                          subst eat
                          clear hin2 hnd hle2 hnc hTT hCF2 hL1 hGb hjt hkk hS3 hC3 hc2 hcn htk hcn2 hpos hR3 hjj
                          go_wp2_with fail
                          go_loopw [20] (fun jv wr => ∃ q : Nat, jv = .int .i64 (q : Int) ∧ q ≤ cn2 ∧ Hid (Below wo.heap.size wo wr)) (fun jv _ => cn2 - (intOf jv).toNat)
                          case atStart => exact ⟨0, rfl, Nat.zero_le _, HX4⟩
                          case round =>
                            clear HX4
                            obtain ⟨q, rfl, hq, hX5⟩ := hrel
                            obtain ⟨hS3, hC3, hc2, hcn, hcn2, hpos, hin2, hnd, htk, hle2⟩ := HC.out
                            have hS4 := hS3.later hX5.out
                            have hC4 := hC3.later hX5.out
                            obtain ⟨gt', ot', eat', ct⟩ := hS4.kw.cr.tm.has.slcell hin2 (ints_get hc2)
                            cases eat'
                            by_cases hlt6 : q < cn2
                            · have k6 : (q : Int) < (cn2 : Int) := by omega
                              obtain ⟨c1, hc1⟩ : ∃ c1, (T ++ cs.take jj)[q]? = some c1 := ⟨_, List.getElem?_eq_getElem (by omega)⟩
                              have hc1' : (T ++ cs)[q]? = some c1 := by
                                rw [List.getElem?_append] at hc1 ⊢
                                split at hc1
                                · rename_i h
                                  rw [if_pos h]; exact hc1
                                · rename_i h
                                  rw [if_neg h]
                                  rw [List.getElem?_take, if_pos (by omega)] at hc1
                                  exact hc1
                              have hne : ¬ c1 = c2 := fun ee => by
                                subst ee
                                have := (List.getElem?_inj (List.getElem?_eq_some_iff.1 hc1').1 hnd).1 (hc1'.trans hpos.symm)
                                omega
                              have hne2 : (c1 == c2) = false := by simpa using hne
                              obtain ⟨gc, capc, evc, hcell⟩ := hC4.cell (fun ee => by rw [ee] at hc1; simp at hc1)
                              simp only [Value.slice.injEq] at evc
                              have eca := evc.1
                              have cc1 := hcell q c1 hc1
                              have HBx : Hid (∀ W, Below wr.heap.size wr W → Below wo.heap.size wo W) := fun W hW => hX5.out.trans (hW.mono hX5.out.size)
                              subst eca
                              clear hS3 hC3 hc2 hcn hcn2 hpos hin2 hnd htk hle2 hS4 hC4 hc1 hc1' hne hcell evc hX5 hq
                              go_wp2_with fail
                              go_quiet (fail)
                              go_wp2_with fail
                              exact ⟨⟨q + 1, rfl, by omega, HBx.out _ (below_drewN _ _)⟩, by simp only [intOf]; omega⟩
                            · have k6 : ¬ (q : Int) < (cn2 : Int) := by omega
                              obtain ⟨w8, hw8⟩ : ∃ W, W = wr.alloc (.cells #[.int .i64 c2] 3) := ⟨_, rfl⟩
                              have hb8 : Below wr.heap.size wr w8 := by rw [hw8]; exact (Below.refl _ _).alloc (Nat.le_refl _) _
                              have hown := (hC4.later hb8).own
                              have cb8 : w8.cell? ⟨wr.heap.size, 0, none⟩ = some (.int .i64 c2) := by
                                have : SVar w8 wr.heap.size [.int .i64 c2] := by rw [hw8]; exact snew _ _ _
                                exact this.cell (i := 0) rfl
                              have hBs : w1.heap.size ≤ w8.heap.size := Nat.le_trans hS4.kw.cr.tm.has.ge.2.2.2.size hb8.size
                              have HO := Lib.hid (⟨hown, cb8, hBs, (by rw [List.length_append, htk]; rw [List.length_append] at hle2; omega : (T ++ cs.take jj).length ≤ 1000000)⟩ : _ ∧ _ ∧ _ ∧ _)
                              have HS4 := Lib.hid (⟨hS4, hC4, hb8, hc2⟩ : _ ∧ _ ∧ _ ∧ _)
                              have HW8 := Lib.hid hw8.symm
                              clear hS3 hC3 hc2 hcn hcn2 hpos hin2 hnd htk hle2 hS4 hC4 hX5 hq hw8 hb8 hown cb8 hBs
                              go_wp2_with (first | rw [HW8.out] | (at_builtin; refine append_num rfl (.tmp 159) (.tmp 164) rfl w1.heap.size (.slice ca2 cn2 cc2) (T ++ cs.take jj) c2 rfl HO.out.1 wr.heap.size 1 rfl HO.out.2.1 HO.out.2.2.2 HO.out.2.2.1 ?_; intro v' w9 g1 g2 g3; have GG := Lib.hid (⟨g1, g2, g3⟩ : _ ∧ _ ∧ _); clear g1 g2 g3))
                              obtain ⟨g1, g2, g3⟩ := GG.out
                              obtain ⟨hS4, hC4, hb8, hc2⟩ := HS4.out
                              obtain ⟨hS9, hC9⟩ := hC4.app hS4 hb8 g1 g2 g3
                              rw [List.append_assoc, show cs.take jj ++ [c2] = cs.take (jj + 1) by rw [List.take_add_one, hc2]; rfl] at hC9
                              obtain ⟨a9, cap9, ev9⟩ := hC9.val
                              subst ev9
                              have HE9 : Hid (Sr w1 b c r G1 J (Yo m l hd (ixs l vs) 100) m1 L1 (.slice (some ⟨gr, 0, none⟩) i lc) s1 j w9 vars ∧ CR w1 b c r G1 L1 (.slice (some ⟨gr, 0, none⟩) i lc) vars w9 (.slice a9 (T ++ cs.take (jj + 1)).length cap9) (T ++ cs.take (jj + 1))) := ⟨hS9, hC9⟩
                              clear GG HO HS4 g1 g2 g3 hS4 hC4 hb8 hc2 hS9 hC9
                              exact ⟨⟨jj + 1, a9, _, cap9, rfl, rfl, by omega, HE9⟩, by simp only [intOf]; omega⟩
                        · have k5 : ¬ (jj : Int) < (sln : Int) := by omega
                          obtain rfl : jj = sln := by omega
                          have HE : Hid (ShOut w1 b c r G J (Yo m l hd (ixs l vs) 100) (.slice (some ⟨gr, 0, none⟩) i lc) vars l vs i t (e + 1) (.slice ca2 cn2 cc2) wr) := by
                            obtain ⟨hin2, hnd, hle2, hnc, hTT, hCF2, hL1, hGb, hjt, hkk⟩ := HTold.out
                            obtain ⟨hS3, hC3⟩ := hR3.out
                            refine ⟨G1, m1, L1, s1, j, f', hS3, by omega, hL1, hGb, ?_, hCF2⟩
                            rw [hTT]
                            rw [hnc, List.take_length] at hC3
                            exact hC3
                          clear hR3 hjj HTold
                          go_wp2_with fail
                          exact ⟨⟨e + 1, ca2, cn2, cc2, rfl, rfl, by omega, HE⟩, by simp only [intOf]; omega⟩
              · obtain rfl : e = i := by omega
                have k4 : ¬ (e : Int) < (e : Int) := by omega
                obtain ⟨G1, m1, L1, s1, j, f, hS, hjt, hL1, hGb, hCR, hCF⟩ := hR.out
                obtain ⟨hJx, hCu, hzy, hJl, hN1, hN2, hN4, hN5⟩ := HJ.out
                obtain ⟨hL, hlen, hvs, hbase, hver⟩ := HL.out
                have hA : AllCut l vs e Nn s1 f := ⟨hCF, hS.kw.rp.own, by rw [hvs, List.length_map]; exact HN.out.2.1.symm, hN4, hN5⟩
                obtain ⟨T, hT⟩ : ∃ T, T = toldTo f e := ⟨_, rfl⟩
                have hTl := hA.length hN1 hbase.nd
                rw [← hT] at hTl hCR
                have hcnT : cn = T.length := by
                  obtain ⟨qa, qc, qe⟩ := hCR.val
                  simp only [Value.slice.injEq] at qe
                  exact qe.2.1
                have hCh := hA.ch hbase hS.kw.rp hN1 hN2
                have HFit : Hid (∀ W, Below wr.heap.size wr W → Calls Tryd.prog 22 #[Yd.v b y, .int .i64 (Nn : Int)] W fun e w' => e = .returned (.bool true) ∧ ButN [b, c, r] W.heap.size W w') := fun W hW => fits_all hL (hS.later hW).kw.cr.tm.has hGb hCh (hbase.word hS.kw.rp) (yo_cnt _ _ _ hS.kw.rp (by omega)) hN1 hN2 (by omega) hver
                have HEnd : Hid (∀ W W', Below wr.heap.size wr W → ButN [b, c, r] W.heap.size W W' → Below w.heap.size w W') := fun W W' hW h => by
                  have h1 := (hS.later hW).kw.cr.tm.has.butBelow h
                  exact HB1.out.trans (h1.mono HB1.out.size)
                have HTold : Hid (∀ (q : Nat) (x : Int × Rv × Int), l[q]? = some x → Nn ≤ q → x.1 ∈ T) := fun q x hx hq => by rw [hT]; exact hA.told hx hq hN1 (.inl rfl)
                have hcn80 : (cn : Int) ≤ 80 := by omega
                have hcnE : (cn : Int) = 2 * ((n1 : Int) - (Nn : Int)) := by omega
                have hN1' : (1 : Int) ≤ (Nn : Int) := by omega
                have hNn1 : (Nn : Int) ≤ (n1 : Int) := by omega
                have hhs := hL.hs
                have hhn := hhs.n
                rw [ints_length, List.length_map, hlen] at hhn
                have HVs : Hid (∀ W, Below wr.heap.size wr W → (W.cell? ⟨zy, 6, none⟩ = some (.slice y.hs.a n1 y.hs.cap)) ∧ (∀ (q : Nat) (x : Int × Rv × Int), l[q]? = some x → ∃ g o, y.hs.a = some ⟨g, o, none⟩ ∧ W.cell? ⟨g, o + q, none⟩ = some (.int .i64 x.1)) ∧ CR w1 b c r G1 L1 (.slice la e lc) vars W (.slice ca cn cc) T ∧ SVar W zy (Yd.row b y)) := fun W hW => by
                  have hS2 := hS.later hW
                  refine ⟨?_, fun q x hx => hS2.kw.cr.tm.has.slcell (hhs.more hGb) (ints_get (by rw [List.getElem?_map, hx]; rfl)), hCR.later hW, (hS2.vs _ hzy).2⟩
                  have := (hS2.vs _ hzy).2.cell (i := 6) rfl
                  rw [hhn] at this
                  exact this
                have HLn := Lib.hid (⟨hlen, hcnT, hcnE⟩ : _ ∧ _ ∧ _)
                obtain ⟨wo, hwo⟩ : ∃ wo, wo = wr := ⟨_, rfl⟩
                subst hwo
                have HX4 : Hid (Below wo.heap.size wo wo) := Below.refl _ _
                have hcnB : ((cn : Int) == 2 * ((n1 : Int) - (Nn : Int))) = true := by simpa using hcnE
                clear hS hjt hL1 hGb hCR hCF hJx hCu hzy hJl hN1 hN2 hN4 hN5 hL hlen hvs hbase hver hA hT hTl hcnT hCh hcnE hhs hhn hR he hlt4
                go_wp2_with fail
                go_loopw [21] (fun jv wr => ∃ q : Nat, jv = .int .i64 (q : Int) ∧ Nn ≤ q ∧ q ≤ n1 ∧ Hid (Below wo.heap.size wo wr)) (fun jv _ => n1 - (intOf jv).toNat)
                case atStart => exact ⟨Nn, rfl, Nat.le_refl _, by omega, HX4⟩
                case round =>
                  clear HX4
                  obtain ⟨q, rfl, hq1, hq2, hX5⟩ := hrel
                  obtain ⟨c6, hsq, -, sy6⟩ := HVs.out _ hX5.out
                  by_cases hlt6 : q < n1
                  · have k6 : (q : Int) < (n1 : Int) := by omega
                    obtain ⟨x, hx⟩ : ∃ x, l[q]? = some x := ⟨_, List.getElem?_eq_getElem (by rw [HLn.out.1]; exact hlt6)⟩
                    have hxT := HTold.out q x hx hq1
                    obtain ⟨gh, oh, eah, -⟩ := hsq q x hx
                    obtain ⟨hx1, hhx1⟩ : ∃ h, h = x.1 := ⟨_, rfl⟩
                    rw [← hhx1] at hxT
                    have HQ : Hid (∀ W, Below wo.heap.size wo W → W.cell? ⟨gh, oh + q, none⟩ = some (.int .i64 hx1)) := fun W hW => by
                      obtain ⟨-, h2, -⟩ := HVs.out _ hW
                      obtain ⟨g', o', ea', cx⟩ := h2 q x hx
                      rw [eah] at ea'
                      cases ea'
                      rw [hhx1]
                      exact cx
                    have HXT := Lib.hid hxT
                    have HX6 : Hid (Below wo.heap.size wo wr) := hX5
                    have HEah := Lib.hid eah
                    obtain ⟨wp, hwp⟩ : ∃ wp, wp = wr := ⟨_, rfl⟩
                    subst hwp
                    clear hX5 sy6 hsq hx hxT eah hhx1
                    go_wp2_with fail
                    clear c6
                    go_loopw [22, 23] (fun hv jv wr => ∃ (hb : Bool) (p : Nat), hv = .bool hb ∧ jv = .int .i64 (p : Int) ∧ p ≤ cn ∧ Hid ((hb = true ∨ ∀ (t : Nat) (z : Int), t < p → T[t]? = some z → z ≠ hx1) ∧ Below wo.heap.size wo wr)) (fun _ jv _ => cn - (intOf jv).toNat)
                    case atStart => exact ⟨false, 0, rfl, rfl, Nat.zero_le _, .inr fun t z ht => absurd ht (Nat.not_lt_zero _), HX6.out⟩
                    case round =>
                      clear HX6
                      obtain ⟨hb, p, rfl, rfl, hp, hX7⟩ := hrel
                      obtain ⟨c6, -, hC7, -⟩ := HVs.out _ hX7.out.2
                      by_cases hlt8 : p < cn
                      · have k8 : (p : Int) < (cn : Int) := by omega
                        obtain ⟨z, hz⟩ : ∃ z, T[p]? = some z := ⟨_, List.getElem?_eq_getElem (by have := HLn.out.2.1; omega)⟩
                        obtain ⟨gc, capc, evc, hcell⟩ := hC7.cell (fun ee => by rw [ee] at hz; simp at hz)
                        simp only [Value.slice.injEq] at evc
                        have eca := evc.1
                        have cc1 := hcell p z hz
                        have cq := HQ.out _ hX7.out.2
                        rw [HEah.out] at c6
                        have HNx : Hid (∀ W, Below wr.heap.size wr W → Below wo.heap.size wo W) := fun W hW => hX7.out.2.trans (hW.mono hX7.out.2.size)
                        have hor := hX7.out.1
                        subst eca
                        cases hb with
                        | true =>
                          clear hC7 hz hcell evc hX7 hp hor
                          go_wp2_with fail
                          go_quiet (fail)
                          go_wp2_with fail
                          exact ⟨⟨true, p + 1, rfl, rfl, by omega, .inl rfl, HNx.out _ (below_drewN _ _)⟩, by simp only [intOf]; omega⟩
                        | false =>
                          have HOr : Hid ((z == hx1) = true ∨ ∀ (t : Nat) (z' : Int), t < p + 1 → T[t]? = some z' → z' ≠ hx1) := by
                            by_cases ee : z = hx1
                            · exact .inl (by simpa using ee)
                            · refine .inr fun t z' ht hz' => ?_
                              by_cases et : t = p
                              · subst et
                                rw [hz] at hz'
                                cases hz'
                                exact ee
                              · rcases hor with h | h
                                · cases h
                                · exact h t z' (by omega) hz'
                          clear hC7 hz hcell evc hX7 hp hor
                          go_wp2_with fail
                          go_quiet (fail)
                          go_wp2_with fail
                          exact ⟨⟨z == hx1, p + 1, rfl, rfl, by omega, HOr.out, HNx.out _ (below_drewN _ _)⟩, by simp only [intOf]; omega⟩
                      · have k8 : ¬ (p : Int) < (cn : Int) := by omega
                        have hbt : hb = true := by
                          rcases hX7.out.1 with h | h
                          · exact h
                          · obtain ⟨t, ht⟩ := List.mem_iff_getElem?.1 HXT.out
                            have := (List.getElem?_eq_some_iff.1 ht).1
                            exact absurd rfl (h t hx1 (by have := HLn.out.2.1; omega) ht)
                        subst hbt
                        have HNx := Lib.hid hX7.out.2
                        clear hC7 hX7 hp c6
                        go_wp2_with fail
                        exact ⟨⟨q + 1, rfl, by omega, by omega, HNx.out⟩, by simp only [intOf]; omega⟩
                  · obtain rfl : q = n1 := by omega
                    have k6 : ¬ (q : Int) < (q : Int) := by omega
                    have hfit := HFit.out _ hX5.out
                    have HE := Lib.hid (fun W' h => HEnd.out _ W' hX5.out h)
                    have g0' := sy6.cell (i := 0) rfl
                    have g1' := sy6.cell (i := 1) rfl
                    have g2' := sy6.cell (i := 2) rfl
                    have g3' := sy6.cell (i := 3) rfl
                    have g4' := sy6.cell (i := 4) rfl
                    have g5' := sy6.cell (i := 5) rfl
                    have g6' := sy6.cell (i := 6) rfl
                    have ehn : y.hs.n = q := by
                      rw [g6'] at c6
                      simp only [Option.some.injEq, Value.slice.injEq] at c6
                      exact c6.2.1
                    unfold Yd.v at hfit
                    rw [ehn] at hfit
                    clear hX5 hsq sy6 hq1 hq2 hlt6 g6' ehn
                    go_wp2_with fail
                    refine hfit.mono ?_
                    rintro e9 w9 ⟨rfl, hb9⟩
                    have HE2 := Lib.hid (HE.out w9 hb9)
                    clear hfit hb9 HE
                    go_wp2_with fail
                    go_ret
                    exact ⟨rfl, HE2.out⟩
  · have haw2 := awake_any w1 (HP.out.1.below HB1.out)
    have HF : Hid (∀ w4, Below w1.heap.size w1 w4 → Below w.heap.size w w4) := fun w4 h4 => HB1.out.trans (h4.mono HB1.out.size)
    by_cases c1 : 1 ≤ n1
    · have i1 : ¬ ((n1 : Int) < 1) := by omega
      by_cases c2 : n1 ≤ 40
      · have i2 : ¬ (40 < (n1 : Int)) := by omega
        by_cases c3 : 1 ≤ n2
        · have i3 : ¬ ((n2 : Int) < 1) := by omega
          by_cases c4 : n2 ≤ 8
          · have i4 : ¬ (8 < (n2 : Int)) := by omega
            have i5 : 600 < (n3 : Int) := by omega
            clear hin c1 c2 c3 c4
            go_wp2_with fail
            refine haw2.mono ?_
            rintro e w4 ⟨rfl, hb⟩
            have HE := Lib.hid (HF.out w4 hb)
            clear haw2 hb HF
            go_wp2
            go_ret
            exact ⟨rfl, HE.out⟩
          · have i4 : 8 < (n2 : Int) := by omega
            clear hin c1 c2 c3 c4
            go_wp2_with fail
            refine haw2.mono ?_
            rintro e w4 ⟨rfl, hb⟩
            have HE := Lib.hid (HF.out w4 hb)
            clear haw2 hb HF
            go_wp2
            go_ret
            exact ⟨rfl, HE.out⟩
        · have i3 : (n2 : Int) < 1 := by omega
          clear hin c1 c2 c3
          go_wp2_with fail
          refine haw2.mono ?_
          rintro e w4 ⟨rfl, hb⟩
          have HE := Lib.hid (HF.out w4 hb)
          clear haw2 hb HF
          go_wp2
          go_ret
          exact ⟨rfl, HE.out⟩
      · have i2 : 40 < (n1 : Int) := by omega
        clear hin c1 c2
        go_wp2_with fail
        refine haw2.mono ?_
        rintro e w4 ⟨rfl, hb⟩
        have HE := Lib.hid (HF.out w4 hb)
        clear haw2 hb HF
        go_wp2
        go_ret
        exact ⟨rfl, HE.out⟩
    · have i1 : (n1 : Int) < 1 := by omega
      clear hin c1
      go_wp2_with fail
      refine haw2.mono ?_
      rintro e w4 ⟨rfl, hb⟩
      have HE := Lib.hid (HF.out w4 hb)
      clear haw2 hb HF
      go_wp2
      go_ret
      exact ⟨rfl, HE.out⟩
theorem sharesLaw (a0 : Option Addr) (l0 : List Int) (cap0 : Nat) {W : World} (h0 : BysI W a0 l0) (a1 : Option Addr) (l1 : List Int) (cap1 : Nat) (h1 : BysI W a1 l1) (a3 : Option Addr) (l3 : List Int) (cap3 : Nat) (h3 : BysI W a3 l3) (_W : World) (hT : TabAt W) :
    Calls Tryd.prog 6 #[.slice a0 l0.length cap0, .slice a1 l1.length cap1, .slice a3 l3.length cap3] W fun e w' => e = .returned (.bool true) ∧ Below W.heap.size W w' := by
  obtain ⟨b0, e0, hb0⟩ := h0.nat
  obtain ⟨b1, e1, hb1⟩ := h1.nat
  obtain ⟨b3, e3, hb3⟩ := h3.nat
  rw [← e0, ← e1, ← e3]
  exact shares_law W hT a0 cap0 b0 hb0 a1 cap1 b1 hb1 a3 cap3 b3 hb3
end Go.Proofs.YtbcpdkmbbgcfbaaDoor
