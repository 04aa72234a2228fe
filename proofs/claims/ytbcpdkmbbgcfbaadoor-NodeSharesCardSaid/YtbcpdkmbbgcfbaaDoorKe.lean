/- NodeReads's law. Condition: the library's table stands. -/
import Derived.Test.YtbcpdkmbbgcfbaaDoorKd
namespace Go.Proofs.YtbcpdkmbbgcfbaaDoor
open Go.RowKit Go.Op
set_option maxRecDepth 100000

theorem as3_yes (x : Int) (w : World) : (Instr.typeAssert (.iface 3 (.int .i64 x)) 20 3 true).run Tryd.prog w = .ok (.tuple #[.int .i64 x, .bool true]) w := by kernel_rfl
theorem Bys.at_ {w W : World} {a : Option Addr} {bs : List Nat} (h : Bys w [] a bs) (hb : Below w.heap.size w W) {i x : Nat} (hi : bs[i]? = some x) : ∃ g o, a = some ⟨g, o, none⟩ ∧ W.cell? ⟨g, o + i, none⟩ = some (.int .u8 (x : Int)) ∧ x ≤ 255 := by
  have hx := h.le x (List.mem_of_getElem? hi)
  rcases h.row with e | ⟨g, o, e, hg, hz, hr⟩
  · rw [e] at hi; simp at hi
  · refine ⟨g, o, e, ?_, hx⟩
    rw [hb.cell (p := ⟨g, o + i, none⟩) hg]
    exact hr i _ (by unfold u8s; rw [List.getElem?_map, hi]; rfl)
/-- What is known of the machines that cut. -/
def Cutters (fk : FuncId) (R : List (Nat × List Value) → Option (List Int × Int) → Value → Prop) (l : List (Int × Rv × Int)) (vs : List Int) (zy : Nat) (hd : Int) (vars : List (Nat × List Value)) (n : Nat) (J : List Job) : Prop :=
  ∀ (o : Nat) (jb : Job), o < n → J[o]? = some jb → ∃ zl v, jb = jobC fk R l (ixs l vs) o v zy zl hd ∧ (zl, [.int .i64 v]) ∈ vars ∧ vs[o]? = some v
theorem Sr.more {w0 : World} {b c r : Nat} {G : List (Nat × List Value)} {W : World} {J : List Job} {rep : Nat → M → Ow → Prop} {m : M} {L : List Mach} {rv : Value} {s : Ow} {j : Nat} {vars vars' : List (Nat × List Value)} (h : Sr w0 b c r G J rep m L rv s j W vars) (hv : ∀ p, p ∈ vars' → p ∈ vars) : Sr w0 b c r G J rep m L rv s j W vars' := ⟨h.kw, fun p hp => h.vs p (hv p hp)⟩
theorem own_slice {w : World} {B : Nat} {v : Value} {n : Nat} {xs : List Value} (h : w.ownsRow B 59 1 v (n + 1) xs) : ∃ a c, v = .slice a (n + 1) c := by
  rcases h.2 with ⟨_, e⟩ | ⟨g, cp, _, e, _⟩
  · omega
  · exact ⟨_, _, e⟩
theorem set_self {α : Type} {l : List α} {i : Nat} {x : α} (h : l[i]? = some x) : l.set i x = l := by
  apply List.ext_getElem?
  intro k
  rw [List.getElem?_set]
  split
  · rename_i e
    subst e
    have := (List.getElem?_eq_some_iff.1 h).1
    first | (rw [if_pos this, h]) | rw [h]
  · rfl
/-- A step of whatever machine, whether it has ended or not. -/
theorem Sr.go {w0 : World} {b c r : Nat} {G : List (Nat × List Value)} {W : World} {J : List Job} {rep : Nat → M → Ow → Prop} {m : M} {L : List Mach} {rv : Value} {s : Ow} {j : Nat} {vars : List (Nat × List Value)} (h : Sr w0 b c r G J rep m L rv s j W vars) (hJ : JobsIx J) {i : Nat} {x : Mach} {jb : Job} (hi : L[i]? = some x) (hjb : J[i]? = some jb)
    (hmono : ∀ j m s, rep j m s → rep (j + 1) m s) (hcnt : ∀ j m s, rep j m s → j ≤ 10000 → m.count ≤ 100000) (hj : j ≤ 9999)
    (hcl : ∀ w1 s1, SysE w0 b c r x.xb 1 x.t G w1 m s1 → (∀ p, p ∈ vars → SVar w1 p.1 p.2) → (∀ a, (jb.p.run s1 m).1 = some a → jb.good a) → Calls Tryd.prog jb.fk (#[.pointer (some ⟨x.xb, 1, none⟩)] ++ jb.caps) w1 fun e w' => Ev w0 b c r x.xb 1 x.t G w1 jb.R (jb.p.run s1 m) e w') :
    Calls Tryd.prog 27 #[.pointer (some ⟨x.xb, 0, none⟩)] W fun e w' => ∃ G' m' s' y, e = .returned (.bool y.fin) ∧ y.xb = x.xb ∧ (y.fin = false → x.fin = false ∧ y.s.e.told.length = x.s.e.told.length + 1) ∧ (∀ z, z ∈ G → z ∈ G') ∧ Sr w0 b c r G' J rep m' (L.set i y) rv s' (j + 1) w' vars := by
  cases hfin : x.fin with
  | false =>
    refine (h.step hJ hi hjb hfin hcnt hj hcl).mono ?_
    rintro e w' ⟨G', m', s', y, h1, h2, h3, h4, h5⟩
    exact ⟨G', m', s', y, h1, h2, fun hy => ⟨rfl, h3 hy⟩, h4.1, h5⟩
  | true =>
    refine (h.kw.cr.tm.done hi hfin).mono ?_
    rintro e w' ⟨rfl, rfl⟩
    exact ⟨G, m, s, x, by rw [hfin], rfl, fun hy => (by rw [hfin] at hy; cases hy), fun z hz => hz, by
      rw [set_self hi]
      exact ⟨⟨h.kw.cr, hmono _ _ _ h.kw.rp, h.kw.ln, h.kw.ms⟩, h.vs⟩⟩
theorem yo_mono {m0 : M} {l : List (Int × Rv × Int)} {hd : Int} {ix : Nat → Nat} {C : Int} (j : Nat) (m : M) (s : Ow) (h : Yo m0 l hd ix C j m s) : Yo m0 l hd ix C (j + 1) m s := ⟨h.prev, h.own, h.same, by have := h.cnt; push_cast; omega⟩
theorem yo_cnt {m0 : M} {l : List (Int × Rv × Int)} {hd : Int} {ix : Nat → Nat} (j : Nat) (m : M) (s : Ow) (h : Yo m0 l hd ix 100 j m s) (hj : j ≤ 10000) : m.count ≤ 100000 := by have := h.cnt; omega
theorem at_58' (g n c k : Nat) (h : k < n) (q : Int) (e : q = (k : Int)) (w : World) : (Instr.indexAt 58 (.slice (some ⟨g, 0, none⟩) n c) (.int .i64 q)).run Tryd.prog w = .ok (.pointer (some ⟨g, k, none⟩)) w := by rw [e]; exact at_58 g n c k h w
/-- While the machines take their turns. -/
def RdGo (w1 : World) (b c r : Nat) (Gb : List (Nat × List Value)) (J : List Job) (rep : Nat → M → Ow → Prop) (rv : Value) (vars : List (Nat × List Value)) (n xr t : Nat) (k : Nat) (W : World) : Prop :=
  ∃ (G : List (Nat × List Value)) (m : M) (L : List Mach) (s : Ow) (j : Nat) (y : Mach), Sr w1 b c r G J rep m L rv s j W vars ∧ j ≤ t ∧ L.length = n + 1 ∧ L[n]? = some y ∧ y.xb = xr ∧ (∀ z, z ∈ Gb → z ∈ G) ∧ (y.fin = false → k ≤ y.s.e.told.length)
theorem rd_cl {w0 : World} {b c r : Nat} {G : List (Nat × List Value)} {m : M} {J : List Job} {l : List (Int × Rv × Int)} {vs : List Int} {zy zv n : Nat} {hd p1 p2 V : Int} {vars : List (Nat × List Value)} {y : Yd} (hC : Cutters 43 R43 l vs zy hd vars n J) (hR : J[n]? = some (jobR l n V zy zv hd)) (hlen : J.length = n + 1) (hzy : (zy, Yd.row b y) ∈ vars) (hzv : (zv, [.int .i64 V]) ∈ vars) (hn : y.n = ⟨⟨#[107]⟩, hd, [p1, p2]⟩) (hc : m.count ≤ 100000) {p : Nat} {jb : Job} (hjb : J[p]? = some jb) {xb : Nat} {t : Value} :
    ∀ w1 s1, SysE w0 b c r xb 1 t G w1 m s1 → (∀ p, p ∈ vars → SVar w1 p.1 p.2) → (∀ a, (jb.p.run s1 m).1 = some a → jb.good a) → Calls Tryd.prog jb.fk (#[.pointer (some ⟨xb, 1, none⟩)] ++ jb.caps) w1 fun e w' => Ev w0 b c r xb 1 t G w1 jb.R (jb.p.run s1 m) e w' := by
  intro w1 s1 hS hv hg
  by_cases hp : p < n
  · obtain ⟨zl, v, e1, e2, e3⟩ := hC p jb hp hjb
    subst e1
    exact clo43 hS hc (hv _ hzy) hn ((hv _ e2).cell (i := 0) rfl) hg
  · have hp2 := (List.getElem?_eq_some_iff.1 hjb).1
    obtain rfl : p = n := by omega
    rw [hR] at hjb
    cases hjb
    exact clo44 hS hc (hv _ hzy) hn ((hv _ hzv).cell (i := 0) rfl) hg
theorem RdGo.of {w1 : World} {b c r : Nat} {Gb : List (Nat × List Value)} {J : List Job} {rep : Nat → M → Ow → Prop} {rv : Value} {vars : List (Nat × List Value)} {n xr t k k' : Nat} {W : World} {G G' : List (Nat × List Value)} {m' : M} {L : List Mach} {s' : Ow} {j p : Nat} {x y y0 : Mach} (hS : Sr w1 b c r G' J rep m' (L.set p y) rv s' (j + 1) W vars) (hj : j ≤ t) (hL : L.length = n + 1) (hp : L[p]? = some x) (hxb : y.xb = x.xb) (hn : L[n]? = some y0) (hn2 : y0.xb = xr) (hb : ∀ z, z ∈ Gb → z ∈ G) (hb2 : ∀ z, z ∈ G → z ∈ G')
    (hk : p = n → y.fin = false → k' ≤ y.s.e.told.length) (hk2 : y0.fin = false → k ≤ y0.s.e.told.length) (hkk : p ≠ n → k' ≤ k) : RdGo w1 b c r Gb J rep rv vars n xr (t + 1) k' W := by
  by_cases e : p = n
  · subst e
    rw [hn] at hp
    cases hp
    exact ⟨G', m', _, s', j + 1, y, hS, by omega, by rw [List.length_set]; exact hL, List.getElem?_set_self (by omega), hxb.trans hn2, fun z hz => hb2 z (hb z hz), hk rfl⟩
  · exact ⟨G', m', _, s', j + 1, y0, hS, by omega, by rw [List.length_set]; exact hL, by rw [List.getElem?_set_ne e]; exact hn, hn2, fun z hz => hb2 z (hb z hz), fun hf => Nat.le_trans (hkk e) (hk2 hf)⟩
/-- Within the loop that makes the machines of NodeReads. -/
def RdMake (w1 : World) (b c r : Nat) (G : List (Nat × List Value)) (m : M) (l : List (Int × Rv × Int)) (vs : List Int) (hd : Int) (zy zv : Nat) (yrow : List Value) (i : Nat) (la : Option Addr) (lc : Nat) (V : Int) (W : World) : Prop :=
  ∃ (L : List Mach) (J : List Job) (vars : List (Nat × List Value)), Sr w1 b c r G J (Yo m l hd (ixs l vs) 100) m L (.slice la i lc) (fun _ => none) 0 W ((zv, [.int .i64 V]) :: vars) ∧ (zy, yrow) ∈ vars ∧ (∀ p, p ∈ vars → p.1 ≠ zv) ∧ J.length = i ∧ JobsIx J ∧ Cutters 43 R43 l vs zy hd vars i J ∧ 0 ≤ V ∧ V ≤ 255 ∧ ∀ (o : Nat) (v : Int), o < i → vs[o]? = some v → v ≤ V
set_option maxHeartbeats 4000000 in
theorem reads_law (w : World) (hT : TabAt w) (a1 : Option Addr) (cap1 : Nat) (bs1 : List Nat) (hb1 : Bys w [] a1 bs1) (a2 : Option Addr) (cap2 : Nat) (bs2 : List Nat) (hb2 : Bys w [] a2 bs2) (mo : Nat) (hmo : mo ≤ 255) (a3 : Option Addr) (cap3 : Nat) (bs3 : List Nat) (hb3 : Bys w [] a3 bs3) :
    Calls Tryd.prog 10 #[.slice a1 bs1.length cap1, .slice a2 bs2.length cap2, .int .u8 (mo : Int), .slice a3 bs3.length cap3] w fun e w' => e = .returned (.bool true) ∧ Below w.heap.size w w' := by
  have haw := awake_any w hT
  have HP := Lib.hid (⟨hT, hb1, hb2, hb3⟩ : _ ∧ _ ∧ _ ∧ _)
  obtain ⟨n1, hn1⟩ : ∃ n, n = bs1.length := ⟨_, rfl⟩
  obtain ⟨n2, hn2⟩ : ∃ n, n = bs2.length := ⟨_, rfl⟩
  obtain ⟨n3, hn3⟩ : ∃ n, n = bs3.length := ⟨_, rfl⟩
  have HN := Lib.hid (⟨hn1, hn2, hn3⟩ : _ ∧ _ ∧ _)
  have q0 : (mo : Int) ≤ 255 := by omega
  rw [← hn1, ← hn2, ← hn3]
  clear hT hb1 hb2 hb3 hn1 hn2 hn3 hmo
  go_enter Tryd.func10, Tryd.ntmps10
  go_wp2_with fail
  refine haw.mono ?_
  rintro e w1 ⟨rfl, hb1⟩
  have HB1 := Lib.hid hb1
  clear haw hb1
  by_cases hin : (1 ≤ n1 ∧ n1 ≤ 40) ∧ (1 ≤ n2 ∧ n2 ≤ 8) ∧ n3 ≤ 600
  · obtain ⟨⟨j1, j2⟩, ⟨j3, j4⟩, j5⟩ := hin
    have i1 : ¬ ((n1 : Int) < 1) := by omega
    have i2 : ¬ (40 < (n1 : Int)) := by omega
    have i3 : ¬ ((n2 : Int) < 1) := by omega
    have i4 : ¬ (8 < (n2 : Int)) := by omega
    have i5 : ¬ (600 < (n3 : Int)) := by omega
    have hl := lay_any w1 (HP.out.1.below HB1.out) (a := a1) (cap := cap1) bs1 (by rw [← HN.out.1]; omega) (HP.out.2.1.later HB1.out)
    rw [← HN.out.1] at hl
    go_wp2_with fail
    refine hl.mono ?_
    rintro e w2 ⟨⟨b, c, r, G, m, y, hd, p1, p2, l, rfl, hL⟩, hb2⟩
    have hlen := hL.len
    rw [← HN.out.1] at hlen
    obtain ⟨w3, hw3⟩ : ∃ W, W = w2.alloc (.cells (Yd.row b y).toArray 29) := ⟨_, rfl⟩
    obtain ⟨w4, hw4⟩ : ∃ W, W = w3.alloc (.cells #[.int .i64 (mo : Int)] 3) := ⟨_, rfl⟩
    obtain ⟨vs, hvs⟩ : ∃ vs : List Int, vs = bs2.map fun (x : Nat) => (x : Int) := ⟨_, rfl⟩
    obtain ⟨zy, hzy⟩ : ∃ z, z = w2.heap.size := ⟨_, rfl⟩
    obtain ⟨zv, hzv⟩ : ∃ z, z = w3.heap.size := ⟨_, rfl⟩
    have hz3 : w3.heap.size = w2.heap.size + 1 := by rw [hw3]; simp
    have hb3 : Below w2.heap.size w2 w3 := by rw [hw3]; exact (Below.refl _ _).alloc (Nat.le_refl _) _
    have hb4 : Below w3.heap.size w3 w4 := by rw [hw4]; exact (Below.refl _ _).alloc (Nat.le_refl _) _
    have hbase := base_of hL.ym (by omega)
    have hcnt := hL.ym.cnt
    have hX0 : Hid (RdMake w1 b c r G m l vs hd zy zv (Yd.row b y) 0 none 0 (mo : Int) w4) := by
      refine ⟨[], [], [(zy, Yd.row b y)], ?_, List.mem_cons_self, fun p hp => ?_, rfl, fun i jb hi => (by simp at hi), fun o jb ho => (by omega), by omega, by omega, fun o v ho => (by omega)⟩
      · refine Sr.start ((hL.has.later hb3).later hb4) (yo_start hL.ym.ch _ _ (by omega)) fun p hp => ?_
        simp only [List.mem_cons, List.not_mem_nil, or_false] at hp
        rcases hp with rfl | rfl
        · rw [hzv, hw4]
          exact ⟨(hL.has.later hb3).fresh _, snew _ _ _⟩
        · rw [hzy]
          refine ⟨?_, ?_⟩
          · have : LocM w1 b c r G w3 w2.heap.size := by rw [hw3]; exact hL.has.fresh _
            exact this.later hb4.size (Grow.refl _ _)
          · have : SVar w3 w2.heap.size (Yd.row b y) := by rw [hw3]; exact snew _ _ _
            exact this.later hb4
      · simp only [List.mem_cons, List.not_mem_nil, or_false] at hp
        rw [hp, hzy, hzv]
        simp only
        omega
    have HL := Lib.hid (⟨hL, hlen, hvs, hbase⟩ : _ ∧ _ ∧ _ ∧ _)
    have HZ := Lib.hid (⟨hzy.symm, hzv.symm⟩ : _ ∧ _)
    have HBW : Hid (∀ G J rep m L rv s j W vars, Sr w1 b c r G J rep m L rv s j W vars → Below w.heap.size w W) := fun G J rep m L rv s j W vars h => HB1.out.trans (h.kw.cr.tm.has.ge.2.2.2.mono HB1.out.size)
    simp only [Yd.row] at hw3
    unfold Yd.v
    have HW3 := Lib.hid hw3.symm
    have HW4 := Lib.hid hw4.symm
    clear hl hL hb2 hw3 hw4 hz3 hb3 hb4 hbase hcnt hlen hvs hzy hzv
    go_wp2_with (first | rw [HW3.out] | rw [HW4.out] | fail)
    rw [HZ.out.1, HZ.out.2]
    go_loopw [12, 13] (fun rv iv wr => ∃ (i : Nat) (la : Option Addr) (lc : Nat) (V : Int), i ≤ n2 ∧ iv = .int .i64 (i : Int) ∧ rv = .slice la i lc ∧ Hid (RdMake w1 b c r G m l vs hd zy zv (Yd.row b y) i la lc V wr)) (fun _ iv _ => n2 - (intOf iv).toNat)
    case atStart => exact ⟨0, none, 0, _, by omega, rfl, rfl, hX0⟩
    case round =>
      obtain ⟨i, la, lc, V, hi, rfl, rfl, hR⟩ := hrel
      by_cases hlt : i < n2
      · have k1 : (i : Int) < (n2 : Int) := by omega
        obtain ⟨L, J, vars, hS, hzy, hne, hJl, hJx, hCu, hV0, hV1, hVm⟩ := hR.out
        obtain ⟨x, hx⟩ : ∃ x, bs2[i]? = some x := ⟨_, List.getElem?_eq_getElem (by rw [← HN.out.2.1]; exact hlt)⟩
        obtain ⟨g2, o2, ea2, cx, hx2⟩ := HP.out.2.2.1.at_ (HBW.out _ _ _ _ _ _ _ _ _ _ hS) hx
        have hx3 : (x : Int) ≤ 255 := by omega
        obtain ⟨wz, hwz⟩ : ∃ W, W = wr.alloc (.cells #[.int .i64 (x : Int)] 3) := ⟨_, rfl⟩
        have hS2 := hS.newVar [.int .i64 (x : Int)] 3
        rw [show ([Value.int .i64 (x : Int)] : List Value).toArray = #[.int .i64 (x : Int)] from rfl, ← hwz] at hS2
        have cv : wz.cell? ⟨zv, 0, none⟩ = some (.int .i64 V) := (hS2.vs (zv, [.int .i64 V]) (by simp)).2.cell (i := 0) rfl
        have fv : ∀ i, wz.frozen? ⟨zv, i, none⟩ = false := (hS2.vs (zv, [.int .i64 V]) (by simp)).2.fz
        have cz : wz.cell? ⟨wr.heap.size, 0, none⟩ = some (.int .i64 (x : Int)) := (hS2.vs (wr.heap.size, [.int .i64 (x : Int)]) (by simp)).2.cell (i := 0) rfl
        have HWz := Lib.hid hwz.symm
        obtain ⟨wm, hwm⟩ : ∃ W, W = wz.setCell ⟨zv, 0, none⟩ (.int .i64 (max V (x : Int))) := ⟨_, rfl⟩
        obtain ⟨zl, hzl⟩ : ∃ z, z = wr.heap.size := ⟨_, rfl⟩
        have hS3 := Sr.put (z := zv) (a := .int .i64 V) (vars := (zl, [.int .i64 (x : Int)]) :: vars) (hS2.more fun p hp => by
          rw [hzl] at hp
          simp only [List.mem_cons] at hp ⊢
          rcases hp with h | h | h
          · exact .inr (.inl h)
          · exact .inl h
          · exact .inr (.inr h)) (fun p hp => by
          rcases List.mem_cons.1 hp with rfl | hp
          · have := (hS.vs (zv, [.int .i64 V]) List.mem_cons_self).2.lt
            simp only at this ⊢
            omega
          · exact hne p hp) (.int .i64 (max V (x : Int)))
        rw [← hwm] at hS3
        have y0 : wm.cell? ⟨zy, 0, none⟩ = some (.pointer (some ⟨b, 0, none⟩)) := (hS3.vs (zy, Yd.row b y) (by simp [hzy])).2.cell (i := 0) rfl
        have HWm := Lib.hid hwm.symm
        have hnm := newmach_any (b := b) (jobC 43 R43 l (ixs l vs) i (x : Int) zy zl hd).f wm ⟨_, _, rfl⟩
        have hvi : vs[i]? = some (x : Int) := by rw [HL.out.2.2.1, List.getElem?_map, hx]; rfl
        have HS3 := Lib.hid (⟨hS3, hzy, hne, hJl, hJx, hCu, hV0, hV1, hVm, hvi, hx3, (by rw [hwm, hzl]; have := (hS2.vs (wr.heap.size, [.int .i64 (x : Int)]) (by simp)).2.lt; simpa using this : zl < wm.heap.size), hzl, (hS.vs (zv, [.int .i64 V]) List.mem_cons_self).2.lt⟩ : _ ∧ _ ∧ _ ∧ _ ∧ _ ∧ _ ∧ _ ∧ _ ∧ _ ∧ _ ∧ _ ∧ _ ∧ _ ∧ _)
        have HZl : Hid (wr.heap.size = zl) := hzl.symm
        unfold Job.f jobC at hnm
        subst ea2
        clear hX0 hi hS hS2 hS3 hzy hne hJl hJx hCu hV0 hV1 hVm hx hx2 hwz hR hwm hvi hzl
        go_wp2_with (first | rw [HWz.out] | rw [HWm.out] | fail)
        rw [HZl.out]
        refine hnm.mono ?_
        rintro e w5 ⟨rfl, hw5⟩
        have hz5 : w5.heap.size = wm.heap.size + 1 := by rw [hw5]; simp
        have HW5 := Lib.hid hw5
        have HO : Hid ((w5.alloc (.cells #[.pointer (some ⟨wm.heap.size, 0, none⟩)] 59)).ownsRow w1.heap.size 59 1 (.slice la i lc) (ptrs L).length (ptrs L) ∧ w1.heap.size ≤ w5.heap.size ∧ L.length = i) := by
          obtain ⟨hC, hzy, hne, hJl, -⟩ := HS3.out
          have hLi : L.length = i := by rw [hC.kw.ln, hJl]
          have hb : Below wm.heap.size wm (w5.alloc (.cells #[.pointer (some ⟨wm.heap.size, 0, none⟩)] 59)) := by
            rw [hw5]
            exact ((Below.refl _ _).alloc (Nat.le_refl _) _).alloc (by simp) _
          have := (hC.kw.cr.later hb).row
          refine ⟨?_, ?_, hLi⟩
          · rw [ptrs_len]; exact this
          · have := hC.kw.cr.tm.has.ge.2.2.2.size; omega
        have HZ5 := Lib.hid hz5
        clear hnm hw5 hz5 y0 cv fv cz cx
        go_wp2_with (at_builtin; refine append_ptr rfl (.tmp 73) (.tmp 78) rfl w1.heap.size (.slice la i lc) (ptrs L) wm.heap.size rfl HO.out.1 w5.heap.size 1 rfl (by simp [go_sem]) (by rw [ptrs_len]; have := HO.out.2; omega) (by have := HO.out.2; simp; omega) ?_; intro v' w6 g1 g2 g3; have GG := Lib.hid (⟨g1, g2, g3⟩ : _ ∧ _ ∧ _); clear g1 g2 g3)
        obtain ⟨g1, g2, g3⟩ := GG.out
        obtain ⟨hS3, hzy, hne, hJl, hJx, hCu, hV0, hV1, hVm, hvi, hx3', hzw, hzl, hzr⟩ := HS3.out
        rw [ptrs_len] at g1
        obtain ⟨la', lc', ev⟩ := own_slice g1
        rw [HO.out.2.2] at ev
        subst ev
        have hE : Hid (RdMake w1 b c r G m l vs hd zy zv (Yd.row b y) (i + 1) la' lc' (max V (x : Int)) w6) := by
          have hJl2 := hJl
          subst hJl2
          refine ⟨_, _, (zl, [.int .i64 (x : Int)]) :: vars, hS3.add (jobC 43 R43 l (ixs l vs) J.length (x : Int) zy zl hd) ?_ ⟨_, _, rfl⟩ (w2 := w5.alloc (.cells #[.pointer (some ⟨wm.heap.size, 0, none⟩)] 59)) ?_ g1 g2 g3, List.mem_cons_of_mem _ hzy, fun p hp => ?_, by simp, hJx.snoc rfl rfl (jobC_ok43 _ _ _ _ _ _ _), fun o jx ho hjx => ?_, by omega, by omega, fun o v ho hv => ?_⟩
          · exact og_cut HL.out.2.2.2 (fun e => by have := HL.out.2.1; rw [e] at this; simp at this; omega) (by rw [ixs_at hvi]; exact ixv_is _ _) (fun _ e => by cases e)
          · have : w5 = wm.alloc (machObj b (jobC 43 R43 l (ixs l vs) J.length (x : Int) zy zl hd).f) := HW5.out
            rw [this]
            exact (Below.refl _ _).alloc (Nat.le_refl _) _
          · rcases List.mem_cons.1 hp with rfl | hp
            · simp only at hzr ⊢
              omega
            · exact hne p hp
          · rw [List.getElem?_append] at hjx
            split at hjx
            · rename_i hlt2
              obtain ⟨zl2, v2, e1, e2, e3⟩ := hCu o jx hlt2 hjx
              exact ⟨zl2, v2, e1, List.mem_cons_of_mem _ e2, e3⟩
            · obtain rfl : o = J.length := by omega
              rw [Nat.sub_self] at hjx
              cases hjx
              exact ⟨zl, (x : Int), rfl, List.mem_cons_self, hvi⟩
          · by_cases e : o = J.length
            · subst e
              rw [hvi] at hv
              cases hv
              omega
            · have := hVm o v (by omega) hv
              omega
        clear GG HO HS3 g1 g2 g3 hS3 hzy hne hJl hJx hCu hV0 hV1 hVm hvi hx3' hzw hzl hzr
        exact ⟨⟨i + 1, la', lc', _, by omega, rfl, rfl, hE⟩, by simp only [intOf]; omega⟩
      · obtain rfl : i = n2 := by omega
        have k1 : ¬ (i : Int) < (i : Int) := by omega
        obtain ⟨L, J, vars, hS, hzy, hne, hJl, hJx, hCu, hV0, hV1, hVm⟩ := hR.out
        have y0 : wr.cell? ⟨zy, 0, none⟩ = some (.pointer (some ⟨b, 0, none⟩)) := (hS.vs (zy, Yd.row b y) (by simp [hzy])).2.cell (i := 0) rfl
        have hnm := newmach_any (b := b) (jobR l i V zy zv hd).f wr ⟨_, _, rfl⟩
        unfold Job.f jobR at hnm
        have HS3 := Lib.hid (⟨hS, hzy, hne, hJl, hJx, hCu, hV0, hV1, hVm⟩ : _ ∧ _ ∧ _ ∧ _ ∧ _ ∧ _ ∧ _ ∧ _ ∧ _)
        clear hX0 hi hS hzy hne hJl hJx hCu hV0 hV1 hVm hR
        go_wp2_with fail
        refine hnm.mono ?_
        rintro e w5 ⟨rfl, hw5⟩
        have hz5 : w5.heap.size = wr.heap.size + 1 := by rw [hw5]; simp
        have HW5 := Lib.hid hw5
        have HO : Hid ((w5.alloc (.cells #[.pointer (some ⟨wr.heap.size, 0, none⟩)] 59)).ownsRow w1.heap.size 59 1 (.slice la i lc) (ptrs L).length (ptrs L) ∧ w1.heap.size ≤ w5.heap.size ∧ L.length = i) := by
          obtain ⟨hC, hzy, hne, hJl, -⟩ := HS3.out
          have hLi : L.length = i := by rw [hC.kw.ln, hJl]
          have hb : Below wr.heap.size wr (w5.alloc (.cells #[.pointer (some ⟨wr.heap.size, 0, none⟩)] 59)) := by
            rw [hw5]
            exact ((Below.refl _ _).alloc (Nat.le_refl _) _).alloc (by simp) _
          have := (hC.kw.cr.later hb).row
          refine ⟨?_, ?_, hLi⟩
          · rw [ptrs_len]; exact this
          · have := hC.kw.cr.tm.has.ge.2.2.2.size; omega
        obtain ⟨xr, hxr⟩ : ∃ x, x = wr.heap.size := ⟨_, rfl⟩
        have HXr : Hid (wr.heap.size = xr) := hxr.symm
        clear hnm hw5 hz5 y0 hxr
        go_wp2_with (at_builtin; refine append_ptr rfl (.tmp 84) (.tmp 86) rfl w1.heap.size (.slice la i lc) (ptrs L) wr.heap.size rfl HO.out.1 w5.heap.size 1 rfl (by simp [go_sem]) (by rw [ptrs_len]; have := HO.out.2; omega) (by have := HO.out.2; simp; omega) ?_; intro v' w6 g1 g2 g3; have GG := Lib.hid (⟨g1, g2, g3⟩ : _ ∧ _ ∧ _); clear g1 g2 g3)
        rw [HXr.out]
        obtain ⟨g1, g2, g3⟩ := GG.out
        rw [ptrs_len] at g1
        obtain ⟨la', lc', ev⟩ := own_slice g1
        rw [HO.out.2.2] at ev
        obtain ⟨ni, hni⟩ : ∃ ni, ni = i + 1 := ⟨_, rfl⟩
        rw [← hni] at ev
        subst ev
        obtain ⟨hS, hzy, hne, hJl, hJx, hCu, hV0, hV1, hVm⟩ := HS3.out
        have hJl2 : J.length = i := hJl
        obtain ⟨JJ, hJJ⟩ : ∃ JJ, JJ = J ++ [jobR l i V zy zv hd] := ⟨_, rfl⟩
        have HX0 : Hid (RdGo w1 b c r G JJ (Yo m l hd (ixs l vs) 100) (.slice la' ni lc') ((zv, [.int .i64 V]) :: vars) i xr 0 0 w6) := by
          refine ⟨G, m, L ++ [mach0 wr.heap.size (jobR l i V zy zv hd).f], (fun _ => none), 0, mach0 wr.heap.size (jobR l i V zy zv hd).f, ?_, Nat.le_refl _, by rw [List.length_append, HO.out.2.2]; rfl, ?_, HXr.out, fun z hz => hz, fun _ => Nat.zero_le _⟩
          · rw [hJJ]
            refine hS.add (jobR l i V zy zv hd) ?_ ⟨_, _, rfl⟩ (w2 := w5.alloc (.cells #[.pointer (some ⟨wr.heap.size, 0, none⟩)] 59)) ?_ g1 g2 g3
            · refine og_read HL.out.2.2.2 (fun e => by have := HL.out.2.1; rw [e] at this; simp at this; omega) (ixv_is V l) (fun o ho => ?_) (fun _ e => by cases e)
              unfold ixs
              cases hvo : vs[o]? with
              | none => exact (ixv_is V l).le
              | some v =>
                have hov : o < i := by
                  have h1 := (List.getElem?_eq_some_iff.1 hvo).1
                  rw [HL.out.2.2.1, List.length_map, ← HN.out.2.1] at h1
                  exact h1
                exact (ixv_is v l).le_of (ixv_is V l) (hVm o v hov hvo)
            · have : w5 = wr.alloc (machObj b (jobR l i V zy zv hd).f) := HW5.out
              rw [this]
              exact (Below.refl _ _).alloc (Nat.le_refl _) _
          · rw [List.getElem?_append, if_neg (by rw [HO.out.2.2]; omega), HO.out.2.2, Nat.sub_self]
            rfl
        have HJ : Hid (JobsIx JJ ∧ Cutters 43 R43 l vs zy hd ((zv, [.int .i64 V]) :: vars) i JJ ∧ JJ[i]? = some (jobR l i V zy zv hd) ∧ (zy, Yd.row b y) ∈ ((zv, [.int .i64 V]) :: vars) ∧ JJ.length = i + 1) := by
          rw [hJJ]
          refine ⟨hJx.snoc (by rw [hJl2]; rfl) (by rw [hJl2]; rfl) (jobR_ok _ _ _ _ _ _), fun o jb ho hjb => ?_, ?_, List.mem_cons_of_mem _ hzy, by simp [hJl2]⟩
          · rw [List.getElem?_append, if_pos (by omega)] at hjb
            obtain ⟨zl, v, e1, e2, e3⟩ := hCu o jb ho hjb
            exact ⟨zl, v, e1, List.mem_cons_of_mem _ e2, e3⟩
          · rw [List.getElem?_append, if_neg (by omega), hJl2, Nat.sub_self]
            rfl
        have HNi : Hid (ni = i + 1) := hni
        have hni1 : (1 : Int) ≤ (ni : Int) := by omega
        have hni2 : (ni : Int) ≤ 9 := by omega
        clear GG HO HS3 g1 g2 g3 hS hzy hne hJl hJx hCu hV0 hV1 hVm hJl2 hJJ HXr HW5 hni
        go_loopw [16] (fun jv wr => ∃ t : Nat, jv = .int .i64 (t : Int) ∧ t ≤ n3 ∧ Hid (RdGo w1 b c r G JJ (Yo m l hd (ixs l vs) 100) (.slice la' ni lc') ((zv, [.int .i64 V]) :: vars) i xr t 0 wr)) (fun jv _ => n3 - (intOf jv).toNat)
        case atStart => exact ⟨0, rfl, Nat.zero_le _, HX0⟩
        case round =>
          clear HX0
          obtain ⟨t, rfl, ht, hR⟩ := hrel
          by_cases hlt3 : t < n3
          · have k3 : (t : Int) < (n3 : Int) := by omega
            obtain ⟨G1, m1, L1, s1, j, y3, hS, hjt, hL1, hyy, hxb, hGb, hko⟩ := hR.out
            obtain ⟨xn, hxn⟩ : ∃ x, bs3[t]? = some x := ⟨_, List.getElem?_eq_getElem (by rw [← HN.out.2.2]; exact hlt3)⟩
            obtain ⟨g3, o3, ea3, cx, hx2⟩ := HP.out.2.2.2.at_ (HBW.out _ _ _ _ _ _ _ _ _ _ hS) hxn
            have hx3 : (xn : Int) ≤ 255 := by omega
            obtain ⟨p, hp⟩ : ∃ p, p = xn % ni := ⟨_, rfl⟩
            have hpn : p < ni := by rw [hp]; exact Nat.mod_lt _ (by omega)
            obtain ⟨xm, hxm⟩ : ∃ x, L1[p]? = some x := ⟨_, List.getElem?_eq_getElem (by rw [hL1, ← HNi.out]; exact hpn)⟩
            obtain ⟨jb, hjb⟩ : ∃ jb, JJ[p]? = some jb := ⟨_, List.getElem?_eq_getElem (by rw [HJ.out.2.2.2.2, ← HNi.out]; exact hpn)⟩
            obtain ⟨gr, eg, hcr⟩ := row_at hS.kw.cr.row (k := p) (by rw [hL1, ← HNi.out]; exact hpn) (u := .pointer (some ⟨xm.xb, 0, none⟩)) (by simp [ptrs, hxm])
            have hm1 : m1.count ≤ 100000 := yo_cnt _ _ _ hS.kw.rp (by omega)
            have hgo := hS.go HJ.out.1 hxm hjb yo_mono yo_cnt (by omega) (rd_cl HJ.out.2.1 HJ.out.2.2.1 HJ.out.2.2.2.2 HJ.out.2.2.2.1 (by simp) HL.out.1.n hm1 hjb)
            have hat := fun W => at_58' gr ni lc' p hpn ((xn : Int) % (ni : Int)) (by rw [hp]; rfl) W
            have HF : Hid (∀ G' m' s' y' W', y'.xb = xm.xb → (∀ z, z ∈ G1 → z ∈ G') → Sr w1 b c r G' JJ (Yo m l hd (ixs l vs) 100) m' (L1.set p y') (.slice la' ni lc') s' (j + 1) W' ((zv, [.int .i64 V]) :: vars) → RdGo w1 b c r G JJ (Yo m l hd (ixs l vs) 100) (.slice la' ni lc') ((zv, [.int .i64 V]) :: vars) i xr (t + 1) 0 W') := fun G' m' s' y' W' h1 h2 h3 => RdGo.of h3 hjt hL1 hxm h1 hyy hxb hGb h2 (fun _ _ => Nat.zero_le _) hko (fun _ => Nat.le_refl _)
            subst ea3 eg
            clear hR hS hjt hL1 hyy hxb hGb hko hxn hx2 hp hpn hxm hjb hm1
            go_wp2_with fail
            refine hgo.mono ?_
            rintro e w7 ⟨G', m', s', y', rfl, q1, q2, q3, q4⟩
            have HE := Lib.hid (HF.out _ _ _ _ _ q1 q3 q4)
            clear hgo q1 q2 q3 q4 HF
            go_wp2_with fail
            exact ⟨⟨t + 1, rfl, by omega, HE.out⟩, by simp only [intOf]; omega⟩
          · obtain rfl : t = n3 := by omega
            have k3 : ¬ (t : Int) < (t : Int) := by omega
            have HX1 : Hid (RdGo w1 b c r G JJ (Yo m l hd (ixs l vs) 100) (.slice la' ni lc') ((zv, [.int .i64 V]) :: vars) i xr (t + 0) 0 wr) := hR
            clear hR ht hlt3
            go_wp2_with fail
            go_loopw [17] (fun jv wr => ∃ k : Nat, jv = .int .i64 (k : Int) ∧ k ≤ 600 ∧ Hid (RdGo w1 b c r G JJ (Yo m l hd (ixs l vs) 100) (.slice la' ni lc') ((zv, [.int .i64 V]) :: vars) i xr (t + k) k wr)) (fun jv _ => 600 - (intOf jv).toNat)
            case atStart => exact ⟨0, rfl, Nat.zero_le _, HX1⟩
            case round =>
              clear HX1
              obtain ⟨k, rfl, hk, hR⟩ := hrel
              obtain ⟨G1, m1, L1, s1, j, y3, hS, hjt, hL1, hyy, hxb, hGb, hko⟩ := hR.out
              by_cases hgo2 : k < 600 ∧ y3.fin = false
              · obtain ⟨hk6, hfin⟩ := hgo2
                have k4 : (k : Int) < 600 := by omega
                have hen := hS.kw.cr.tm.ended hyy
                rw [hxb, hfin] at hen
                have hm1 : m1.count ≤ 100000 := yo_cnt _ _ _ hS.kw.rp (by omega)
                have hgo := hS.go HJ.out.1 hyy HJ.out.2.2.1 yo_mono yo_cnt (by omega) (rd_cl HJ.out.2.1 HJ.out.2.2.1 HJ.out.2.2.2.2 HJ.out.2.2.2.1 (by simp) HL.out.1.n hm1 HJ.out.2.2.1)
                rw [hxb] at hgo
                have HF : Hid (∀ G' m' s' y' W', y'.xb = xr → (∀ z, z ∈ G1 → z ∈ G') → (y'.fin = false → y'.s.e.told.length = y3.s.e.told.length + 1) → Sr w1 b c r G' JJ (Yo m l hd (ixs l vs) 100) m' (L1.set i y') (.slice la' ni lc') s' (j + 1) W' ((zv, [.int .i64 V]) :: vars) → RdGo w1 b c r G JJ (Yo m l hd (ixs l vs) 100) (.slice la' ni lc') ((zv, [.int .i64 V]) :: vars) i xr (t + (k + 1)) (k + 1) W') := fun G' m' s' y' W' h1 h2 h4 h3 => RdGo.of (k := k) h3 hjt hL1 hyy (h1.trans hxb.symm) hyy hxb hGb h2 (fun _ hf => by have := h4 hf; have := hko hfin; omega) hko (fun e => absurd rfl e)
                clear hR hS hjt hL1 hyy hxb hGb hko hfin hm1 hk
                go_wp2_with fail
                refine hen.mono ?_
                rintro e w7 ⟨rfl, rfl⟩
                clear hen
                go_wp2_with fail
                refine hgo.mono ?_
                rintro e w8 ⟨G', m', s', y', rfl, q1, q2, q3, q4⟩
                have HE := Lib.hid (HF.out _ _ _ _ _ q1 q3 (fun hf => (q2 hf).2) q4)
                clear hgo q1 q2 q3 q4 HF
                go_wp2_with fail
                exact ⟨⟨k + 1, rfl, by omega, HE.out⟩, by simp only [intOf]; omega⟩
              · have hfin : y3.fin = true := by
                  cases hf : y3.fin with
                  | true => rfl
                  | false =>
                    have h1 := hko hf
                    have h2 := (hS.kw.ms i y3 _ hyy HJ.out.2.2.1).short (n := 81) (up_le 40 hd V) hf
                    exact absurd ⟨by omega, hf⟩ hgo2
                by_cases hk6 : k < 600
                · have k4 : (k : Int) < 600 := by omega
                  clear hR hjt hL1 hko hgo2 hk
                  have hen := hS.kw.cr.tm.ended hyy
                  rw [hxb, hfin] at hen
                  obtain ⟨a, ho, hf44⟩ := (hS.kw.ms i y3 _ hyy HJ.out.2.2.1).done hfin
                  have hf45 : a = some (foundS V l) := hf44
                  obtain ⟨xx, hxx, hout⟩ := ho
                  rw [hf45] at hxx
                  cases hxx
                  have hou := hS.kw.cr.tm.out hyy
                  rw [hxb, hout] at hou
                  obtain ⟨hL, hlen, hvs, hbase⟩ := HL.out
                  have c5 : wr.cell? ⟨zy, 5, none⟩ = some (.slice y.ch.a n1 y.ch.cap) := by
                    have := (hS.vs (zy, Yd.row b y) (by simp [HJ.out.2.2.2.1])).2.cell (i := 5) rfl
                    have hn := hL.ch.n
                    rw [ints_length, vers_length, List.length_reverse, ← HN.out.1] at hn
                    rw [hn] at this
                    exact this
                  have czv : wr.cell? ⟨zv, 0, none⟩ = some (.int .i64 V) := (hS.vs (zv, [.int .i64 V]) (by simp)).2.cell (i := 0) rfl
                  obtain ⟨cvs, hcvs⟩ : ∃ cvs, cvs = l.map fun x => x.2.1.ver := ⟨_, rfl⟩
                  have hcl : cvs.length = n1 := by rw [hcvs, List.length_map, hlen]
                  have hcs := hL.ch
                  rw [← hL.vers, ← hcvs] at hcs
                  have hcs2 := hcs.more hGb
                  have hrg : cvs ≠ [] → ∃ g o, y.ch.a = some ⟨g, o, none⟩ ∧ wr.rangeAt g o (ints cvs) := fun hne => by
                    rcases hcs2.row with e | ⟨g, o, rr, e, hm, hr⟩
                    · exact absurd (List.length_eq_zero_iff.1 (by rw [← ints_length, e]; rfl)) hne
                    · obtain ⟨m0, -, -, -, -, h5⟩ := hS.kw.cr.tm.has
                      exact ⟨g, o, e, fun j u hj => (h5 g rr hm).1.at_ _ _ (hr j u hj)⟩
                  have hat2 := refAt_any wr y.ch.a y.ch.cap cvs (by omega) hrg V
                  rw [hcl] at hat2
                  have hfp := found_pos V l
                  rw [← hcvs] at hfp
                  have a3' := as3_yes
                  have hne0 : cvs ≠ [] := fun e => by rw [e] at hcl; simp at hcl; omega
                  obtain ⟨gc, oc, eac, hrow⟩ := hrg hne0
                  have HE := Lib.hid (HBW.out _ _ _ _ _ _ _ _ _ _ hS)
                  have HRow := Lib.hid (⟨hrow, hcl, hbase, hcvs⟩ : _ ∧ _ ∧ _ ∧ _)
                  rw [eac] at c5 hat2
                  clear hS hyy hxb hGb hfin hf44 hf45 hout hL hlen hvs hbase hcs hcs2 hrg eac hne0 hrow hcvs
                  rcases hfp with ⟨f1, f2⟩ | ⟨i0, x0, f0, f1, f2⟩
                  · rw [f2] at hou
                    rw [f1] at hat2
                    have e44 : told44 (sp0, 0) = -1 := rfl
                    rw [e44] at hou
                    clear f1 f2 e44 hcl
                    go_wp2_with fail
                    refine hen.mono ?_
                    rintro e w7 ⟨rfl, rfl⟩
                    clear hen
                    go_wp2_with fail
                    refine hou.mono ?_
                    rintro e w8 ⟨rfl, rfl⟩
                    clear hou
                    go_wp2_with fail
                    refine hat2.mono ?_
                    rintro e w8 ⟨rfl, rfl⟩
                    clear hat2
                    go_wp2_with fail
                    go_ret
                    exact ⟨rfl, HE.out⟩
                  · obtain ⟨hrow, hcl, hbase, hcvs⟩ := HRow.out
                    rw [f2] at hou
                    rw [f1] at hat2
                    have hi0 := (List.getElem?_eq_some_iff.1 f0).1
                    have hx0 := hbase.nz x0 (List.mem_of_getElem? f0)
                    have e44 : told44 (⟨x0.1, ⟨x0.2.1, x0.2.2⟩⟩, 0) = x0.2.1.ver := by unfold told44; rw [if_pos rfl, if_neg hx0]
                    rw [e44] at hou
                    have cx0 : wr.cell? ⟨gc, oc + i0, none⟩ = some (.int .i64 x0.2.1.ver) := hrow i0 _ (ints_get (by rw [hcvs, List.getElem?_map, f0]; rfl))
                    have hb0 : (i0 : Int) < (n1 : Int) := by rw [hcvs, List.length_map] at hcl; omega
                    have hb1 : (0 : Int) ≤ (i0 : Int) := by omega
                    generalize x0.2.1.ver = xv at hou cx0
                    clear f0 f1 f2 e44 hcl hi0 hx0 hrow hbase hcvs
                    go_wp2_with fail
                    refine hen.mono ?_
                    rintro e w7 ⟨rfl, rfl⟩
                    clear hen
                    go_wp2_with fail
                    refine hou.mono ?_
                    rintro e w8 ⟨rfl, rfl⟩
                    clear hou
                    go_wp2_with fail
                    refine hat2.mono ?_
                    rintro e w8 ⟨rfl, rfl⟩
                    clear hat2
                    go_wp2_with fail
                    go_ret
                    exact ⟨rfl, HE.out⟩
                · have k4 : ¬ (k : Int) < 600 := by omega
                  clear hR hjt hL1 hko hgo2 hk
                  obtain ⟨a, ho, hf44⟩ := (hS.kw.ms i y3 _ hyy HJ.out.2.2.1).done hfin
                  have hf45 : a = some (foundS V l) := hf44
                  obtain ⟨xx, hxx, hout⟩ := ho
                  rw [hf45] at hxx
                  cases hxx
                  have hou := hS.kw.cr.tm.out hyy
                  rw [hxb, hout] at hou
                  obtain ⟨hL, hlen, hvs, hbase⟩ := HL.out
                  have c5 : wr.cell? ⟨zy, 5, none⟩ = some (.slice y.ch.a n1 y.ch.cap) := by
                    have := (hS.vs (zy, Yd.row b y) (by simp [HJ.out.2.2.2.1])).2.cell (i := 5) rfl
                    have hn := hL.ch.n
                    rw [ints_length, vers_length, List.length_reverse, ← HN.out.1] at hn
                    rw [hn] at this
                    exact this
                  have czv : wr.cell? ⟨zv, 0, none⟩ = some (.int .i64 V) := (hS.vs (zv, [.int .i64 V]) (by simp)).2.cell (i := 0) rfl
                  obtain ⟨cvs, hcvs⟩ : ∃ cvs, cvs = l.map fun x => x.2.1.ver := ⟨_, rfl⟩
                  have hcl : cvs.length = n1 := by rw [hcvs, List.length_map, hlen]
                  have hcs := hL.ch
                  rw [← hL.vers, ← hcvs] at hcs
                  have hcs2 := hcs.more hGb
                  have hrg : cvs ≠ [] → ∃ g o, y.ch.a = some ⟨g, o, none⟩ ∧ wr.rangeAt g o (ints cvs) := fun hne => by
                    rcases hcs2.row with e | ⟨g, o, rr, e, hm, hr⟩
                    · exact absurd (List.length_eq_zero_iff.1 (by rw [← ints_length, e]; rfl)) hne
                    · obtain ⟨m0, -, -, -, -, h5⟩ := hS.kw.cr.tm.has
                      exact ⟨g, o, e, fun j u hj => (h5 g rr hm).1.at_ _ _ (hr j u hj)⟩
                  have hat2 := refAt_any wr y.ch.a y.ch.cap cvs (by omega) hrg V
                  rw [hcl] at hat2
                  have hfp := found_pos V l
                  rw [← hcvs] at hfp
                  have a3' := as3_yes
                  have hne0 : cvs ≠ [] := fun e => by rw [e] at hcl; simp at hcl; omega
                  obtain ⟨gc, oc, eac, hrow⟩ := hrg hne0
                  have HE := Lib.hid (HBW.out _ _ _ _ _ _ _ _ _ _ hS)
                  have HRow := Lib.hid (⟨hrow, hcl, hbase, hcvs⟩ : _ ∧ _ ∧ _ ∧ _)
                  rw [eac] at c5 hat2
                  clear hS hyy hxb hGb hfin hf44 hf45 hout hL hlen hvs hbase hcs hcs2 hrg eac hne0 hrow hcvs
                  rcases hfp with ⟨f1, f2⟩ | ⟨i0, x0, f0, f1, f2⟩
                  · rw [f2] at hou
                    rw [f1] at hat2
                    have e44 : told44 (sp0, 0) = -1 := rfl
                    rw [e44] at hou
                    clear f1 f2 e44 hcl
                    go_wp2_with fail
                    refine hou.mono ?_
                    rintro e w8 ⟨rfl, rfl⟩
                    clear hou
                    go_wp2_with fail
                    refine hat2.mono ?_
                    rintro e w8 ⟨rfl, rfl⟩
                    clear hat2
                    go_wp2_with fail
                    go_ret
                    exact ⟨rfl, HE.out⟩
                  · obtain ⟨hrow, hcl, hbase, hcvs⟩ := HRow.out
                    rw [f2] at hou
                    rw [f1] at hat2
                    have hi0 := (List.getElem?_eq_some_iff.1 f0).1
                    have hx0 := hbase.nz x0 (List.mem_of_getElem? f0)
                    have e44 : told44 (⟨x0.1, ⟨x0.2.1, x0.2.2⟩⟩, 0) = x0.2.1.ver := by unfold told44; rw [if_pos rfl, if_neg hx0]
                    rw [e44] at hou
                    have cx0 : wr.cell? ⟨gc, oc + i0, none⟩ = some (.int .i64 x0.2.1.ver) := hrow i0 _ (ints_get (by rw [hcvs, List.getElem?_map, f0]; rfl))
                    have hb0 : (i0 : Int) < (n1 : Int) := by rw [hcvs, List.length_map] at hcl; omega
                    have hb1 : (0 : Int) ≤ (i0 : Int) := by omega
                    generalize x0.2.1.ver = xv at hou cx0
                    clear f0 f1 f2 e44 hcl hi0 hx0 hrow hbase hcvs
                    go_wp2_with fail
                    refine hou.mono ?_
                    rintro e w8 ⟨rfl, rfl⟩
                    clear hou
                    go_wp2_with fail
                    refine hat2.mono ?_
                    rintro e w8 ⟨rfl, rfl⟩
                    clear hat2
                    go_wp2_with fail
                    go_ret
                    exact ⟨rfl, HE.out⟩
  · have haw2 := awake_any w1 (HP.out.1.below HB1.out)
    have HF : Hid (∀ w4, Below w1.heap.size w1 w4 → Below w.heap.size w w4) := fun w4 h4 => HB1.out.trans (h4.mono HB1.out.size)
    by_cases c1 : 1 ≤ n1
    · have i1 : ¬ ((n1 : Int) < 1) := by omega
      by_cases c2 : n1 ≤ 40
      · have i2 : ¬ (40 < (n1 : Int)) := by omega
        by_cases c3 : 1 ≤ n2
        · have i3 : ¬ ((n2 : Int) < 1) := by omega
          by_cases c4 : n2 ≤ 8
          · have i4 : ¬ (8 < (n2 : Int)) := by omega
            have i5 : 600 < (n3 : Int) := by omega
            clear hin c1 c2 c3 c4
            go_wp2_with fail
            refine haw2.mono ?_
            rintro e w4 ⟨rfl, hb⟩
            have HE := Lib.hid (HF.out w4 hb)
            clear haw2 hb HF
            go_wp2
            go_ret
            exact ⟨rfl, HE.out⟩
          · have i4 : 8 < (n2 : Int) := by omega
            clear hin c1 c2 c3 c4
            go_wp2_with fail
            refine haw2.mono ?_
            rintro e w4 ⟨rfl, hb⟩
            have HE := Lib.hid (HF.out w4 hb)
            clear haw2 hb HF
            go_wp2
            go_ret
            exact ⟨rfl, HE.out⟩
        · have i3 : (n2 : Int) < 1 := by omega
          clear hin c1 c2 c3
          go_wp2_with fail
          refine haw2.mono ?_
          rintro e w4 ⟨rfl, hb⟩
          have HE := Lib.hid (HF.out w4 hb)
          clear haw2 hb HF
          go_wp2
          go_ret
          exact ⟨rfl, HE.out⟩
      · have i2 : 40 < (n1 : Int) := by omega
        clear hin c1 c2
        go_wp2_with fail
        refine haw2.mono ?_
        rintro e w4 ⟨rfl, hb⟩
        have HE := Lib.hid (HF.out w4 hb)
        clear haw2 hb HF
        go_wp2
        go_ret
        exact ⟨rfl, HE.out⟩
    · have i1 : (n1 : Int) < 1 := by omega
      clear hin c1
      go_wp2_with fail
      refine haw2.mono ?_
      rintro e w4 ⟨rfl, hb⟩
      have HE := Lib.hid (HF.out w4 hb)
      clear haw2 hb HF
      go_wp2
      go_ret
      exact ⟨rfl, HE.out⟩
theorem readsLaw (a0 : Option Addr) (l0 : List Int) (cap0 : Nat) {W : World} (h0 : BysI W a0 l0) (a1 : Option Addr) (l1 : List Int) (cap1 : Nat) (h1 : BysI W a1 l1) (v : Int) (hv : (Lit.int .u8 v).wf = true) (a3 : Option Addr) (l3 : List Int) (cap3 : Nat) (h3 : BysI W a3 l3) (_W : World) (hT : TabAt W) :
    Calls Tryd.prog 10 #[.slice a0 l0.length cap0, .slice a1 l1.length cap1, .int .u8 v, .slice a3 l3.length cap3] W fun e w' => e = .returned (.bool true) ∧ Below W.heap.size W w' := by
  simp [Lit.wf, IntKind.min, IntKind.max, IntKind.signed, IntKind.bits] at hv
  obtain ⟨n, rfl⟩ : ∃ n : Nat, v = (n : Int) := ⟨v.toNat, by omega⟩
  obtain ⟨b0, e0, hb0⟩ := h0.nat
  obtain ⟨b1, e1, hb1⟩ := h1.nat
  obtain ⟨b3, e3, hb3⟩ := h3.nat
  rw [← e0, ← e1, ← e3]
  exact reads_law W hT a0 cap0 b0 hb0 a1 cap1 b1 hb1 n (by omega) a3 cap3 b3 hb3
end Go.Proofs.YtbcpdkmbbgcfbaaDoor
