/- What tower.Look comes to, by whatever port. Conditions: at most 500000 asks; so many ages, and links, at most as are told. -/
import Derived.Test.YtibimnibmengpaaDoorTe
namespace Go.Proofs.YtibimnibmengpaaDoor
open Go.RowKit Go.Op
set_option maxRecDepth 100000

theorem SVar.storeMid {w : World} {z : Nat} {row : List Value} {ty : TypeId} (h : SVar w z row) (o : Nat) (sub : List Value) (ho : o + sub.length ≤ row.length) (hS : Shape ty sub.length) (h1 : ∀ v ∈ sub, v.oneCell' = true) : (Instr.storeAt ty (.pointer (some ⟨z, o, none⟩)) (.agg sub.toArray)).run Tryd.prog w = .ok () (w.setCells z o sub) :=
  run_storeAt_mid w z o ty sub.toArray (by
    intro j hj
    have := h.there (o + j) (by simp at hj; omega)
    rwa [Nat.zero_add] at this) (by simpa using hS.size) (all_oneCell_toArray h1)
theorem Rv.row_one (a : Rv) (p : Pl) : ∀ v ∈ a.row p, v.oneCell' = true := by
  intro v hv
  simp only [Rv.row, List.mem_cons, List.not_mem_nil, or_false] at hv
  rcases hv with rfl | rfl | rfl | rfl | rfl | rfl | rfl | rfl | rfl | rfl <;> rfl
/-- A view's head and revision are stored. -/
theorem SVar.viewPut {w : World} {z : Nat} {v : Vw} {q : Vs} (h : SVar w z (v.row q)) (hd : Int) (r : Rv) (p : Pl) : SVar ((w.setCell ⟨z, 5, none⟩ (.int .i64 hd)).setCells z 6 (r.row p)) z ((⟨v.h, v.nd, v.links, hd, r⟩ : Vw).row ⟨q.pn, q.pl, p⟩) :=
  ((((((((((h.set (i := 5) (by simp [Vw.row]) (.int .i64 hd)).set (i := 6) (by simp [Vw.row]) (.int .i64 r.ver)).set (i := 7) (by simp [Vw.row]) (.int .i64 r.rate)).set (i := 8) (by simp [Vw.row]) (.string r.lo)).set (i := 9) (by simp [Vw.row]) (.string r.hi)).set (i := 10) (by simp [Vw.row]) (.bool r.all)).set (i := 11) (by simp [Vw.row]) (.bool r.dead)).set (i := 12) (by simp [Vw.row]) (.slice p.s0.a p.s0.n p.s0.cap)).set (i := 13) (by simp [Vw.row]) (.slice p.s1.a p.s1.n p.s1.cap)).set (i := 14) (by simp [Vw.row]) (.slice p.s2.a p.s2.n p.s2.cap)).set (i := 15) (by simp [Vw.row]) (.slice p.s3.a p.s3.n p.s3.cap)
/-- Two stores, one behind the other; what is read ahead of the second one. -/
structure LS2 (w2 : World) (R P1 P2 : World → Prop) (bs : List Bool) (_ : Nat → Value) (W : World) : Prop where
  one : bs[0]? = some false → Below w2.heap.size w2 W
  rd : bs[1]? = some false → R W
  two : bs[0]? = some true → bs[1]? = some false → P1 W
  three : bs[1]? = some true → P2 W
theorem ls2_start {w2 : World} {R P1 P2 : World → Prop} {β : Nat → Value} (h : R w2.drew) : LS2 w2 R P1 P2 [false, false] β w2.drew := ⟨fun _ => (Below.refl _ _).drew, fun _ => h, fun e => (by cases e), fun e => (by cases e)⟩
theorem ls2_first {w2 : World} {R P1 P2 : World → Prop} {β : Nat → Value} {bs : List Bool} {W1 : World} (b0 : bs[0]? = some false) (b1 : bs[1]? = some false) (hr : R W1) (hp : P1 W1) : LS2 w2 R P1 P2 (bs.set 0 true) β W1 :=
  ⟨fun e => (by rw [set_at b0] at e; cases e), fun _ => hr, fun _ _ => hp, fun e => (by rw [List.getElem?_set_ne (by decide), b1] at e; cases e)⟩
theorem ls2_second {w2 : World} {R P1 P2 : World → Prop} {β : Nat → Value} {bs : List Bool} {W1 : World} (b0 : bs[0]? = some true) (b1 : bs[1]? = some false) (hp : P2 W1) : LS2 w2 R P1 P2 (bs.set 1 true) β W1 :=
  ⟨fun e => (by rw [List.getElem?_set_ne (by decide), b0] at e; cases e), fun e => (by rw [set_at b1] at e; cases e), fun _ e => (by rw [set_at b1] at e; cases e), fun _ => hp⟩
theorem Ag.revAt {w : World} {z : Nat} {x : Ag} {p : Pl} (h : SVar w z (x.row p)) : w.rangeAt z 0 (x.r.row p) := h.mid 0 _ fun j v hj => by
  rw [Nat.zero_add]
  show (x.r.row p ++ [Value.int .i64 x.pv])[j]? = some v
  rw [List.getElem?_append_left (List.getElem?_eq_some_iff.1 hj).1]; exact hj
section
variable {w0 : World} {b c r pb po : Nat} {t t1 : Value} {G G1 : List (Nat × List Value)} {w w1 w2 : World} {m m1 : M} {s s1 : Pt}
/-- Within Look's loop. -/
structure LK (w0 : World) (b c r pb po : Nat) (t : Value) (G : List (Nat × List Value)) (w : World) (zr zn zv : Nat) (whole : Option (Option (Vw × Int)) × Pt × M) (n : Nat) (h : Int) (x : Nd) (q : Pl) (K : Int) (i : Nat) (wr : World) : Prop where
  ex : ∃ (acc : List Int) (a : Option Addr) (cap : Nat) (t2 : Value) (G2 : List (Nat × List Value)) (m2 : M) (s2 : Pt), acc.length = i ∧ Aft w0 b c r pb po t G w t2 G2 wr m2 s2 ∧ x.d.In G2 q ∧ SVar wr zr (vw0.row vs0) ∧ Loc w0 b c r pb t2 G2 wr zr ∧ SVar wr zn (x.row q) ∧ Loc w0 b c r pb t2 G2 wr zn ∧ SVar wr zv ((⟨h, x, acc, 0, rv0⟩ : Vw).row ⟨q.s0, ⟨a, acc.length, cap⟩, .nil⟩) ∧ Loc w0 b c r pb t2 G2 wr zv ∧ GRow w0 b c r pb t2 G2 (zv + 1) 3 1 wr (.slice a acc.length cap) acc.length (ints acc) ∧ whole = ((linksP (x.nx.drop i) acc).bind (lookK n h x)).run s2 m2 ∧ m2.count ≤ K + (i : Int) ∧ zv + 1 ≤ wr.heap.size
set_option maxHeartbeats 4000000 in
theorem Look_E (h : SysE w0 b c r pb po t G w m s) (n : Nat) (hc : m.count + 3 * (n : Int) ≤ 500000) (hh : Int) (hne : ((lookP n hh).run s m).1 ≠ some none) :
    Calls Tryd.prog 23 #[.pointer (some ⟨pb, po, none⟩), .int .i64 hh] w fun e w' => Ev w0 b c r pb po t G w RVw ((lookP n hh).run s m) e w' := by
  have ba := (Below.refl w.heap.size w).alloc (Nat.le_refl _) vobj
  have V1 := (Vars.nil (w := w)).new h (vw0.row vs0) 54
  have hl := Load_E (h.later ba) (by omega) hh
  have hct := (load_count hh s m).2
  have HB := Lib.hid ba
  have HV := Lib.hid V1
  have hzw0 : w0.heap.size ≤ w.heap.size := by
    obtain ⟨m0, s0, q1, -⟩ := h
    exact q1.has.below.size
  unfold vobj at hl
  have mixed : Tryd.prog.follows .mixedOrders = true := by kernel_rfl
  clear h ba V1
  go_enter Tryd.func23, Tryd.ntmps23
  go_wp2_with fail
  refine hl.mono ?_
  rintro e w1 hE
  rcases hE.cases with ⟨t1, G1, s1, m1, ho, rfl, ha⟩ | ⟨t1, G1, s1, m1, ⟨x, e1⟩, v1, ho, rfl, ⟨q, hq, rfl⟩, ha⟩
  · have HX : Hid (Ev w0 b c r pb po t G w RVw ((lookP n hh).run s m) (Halt pb po) w1) := Ev.die (by rw [lookP, Pr.bind_none ho]) (ha.back HB.out)
    clear hl hE ho ha
    unfold Halt
    go_wp2
    exact ⟨rfl, HX.out⟩
  rw [ho] at hct
  simp only at hct
  have hV := HV.out.aft ha
  obtain ⟨w3, hw3⟩ : ∃ W, W = w1.alloc (.cells (x.row q).toArray 38) := ⟨_, rfl⟩
  have hb3 : Below w1.heap.size w1 w3 := by rw [hw3]; exact (Below.refl _ _).alloc (Nat.le_refl _) _
  have sx : SVar w3 w1.heap.size (x.row q) := by rw [hw3]; exact snew _ _ _
  have lx : Loc w0 b c r pb t1 G1 w3 w1.heap.size := by rw [hw3]; exact ha.sys.fresh _
  have hr3 : SVar w3 w.heap.size (vw0.row vs0) := (hV (w.heap.size, vw0.row vs0) (by simp)).2.later hb3
  have hrl3 : Loc w0 b c r pb t1 G1 w3 w.heap.size := (hV (w.heap.size, vw0.row vs0) (by simp)).1.same hb3.size
  have ha3 := (ha.back HB.out).later hb3
  have hrun : (lookP n hh).run s m = (if e1 = 0 then (if x.nx.length ≤ 1000 then (linksP x.nx []).bind (lookK n hh x) else .ret none) else .ret (some (vw0, e1)) : Pr (Option (Vw × Int))).run s1 m1 := by rw [lookP, Pr.bind_some ho]
  have HW3 := Lib.hid hw3.symm
  have hzw : w.heap.size < w1.heap.size := by
    have := (hV (w.heap.size, vw0.row vs0) (by simp)).1.lt
    simpa using this
  have HZ := Lib.hid hzw
  unfold Nd.v
  simp only [Nd.row] at HW3
  by_cases he1 : e1 = 0
  rotate_left
  · rw [if_neg he1] at hrun
    have HF : Hid (Ev w0 b c r pb po t G w RVw ((lookP n hh).run s m) (.returned (.tuple #[.agg #[.int .i64 0, .string ⟨#[]⟩, .int .i64 0, .slice none 0 0, .slice none 0 0, .int .i64 0, .int .i64 0, .int .i64 0, .string ⟨#[]⟩, .string ⟨#[]⟩, .bool false, .bool false, .slice none 0 0, .slice none 0 0, .slice none 0 0, .slice none 0 0], .int .i64 e1])) (sput w3 w.heap.size (vw0.row vs0)) ∧ (Go.loadVar 54 ⟨w.heap.size, 0, none⟩).run Tryd.prog (sput w3 w.heap.size (vw0.row vs0)) = .ok (.agg #[.int .i64 0, .string ⟨#[]⟩, .int .i64 0, .slice none 0 0, .slice none 0 0, .int .i64 0, .int .i64 0, .int .i64 0, .string ⟨#[]⟩, .string ⟨#[]⟩, .bool false, .bool false, .slice none 0 0, .slice none 0 0, .slice none 0 0, .slice none 0 0]) (sput w3 w.heap.size (vw0.row vs0))) :=
      ⟨Ev.ret (a := some (vw0, e1)) hrun ⟨_, vs0, rfl, vw0_in, rfl⟩ (ha3.aside (But.sput _ _ _) hrl3 (Nat.le_refl _)), (hr3.put (row' := vw0.row vs0) rfl).loadVar sh54⟩
    have hst0 := hr3.store (row' := vw0.row vs0) rfl sh54 (vw0.row_one vs0)
    generalize sput w3 w.heap.size (vw0.row vs0) = W at HF hst0
    simp only [Vw.row, vw0, nd0, rv0, vs0, Pl.nil, Sl.nil] at hst0
    clear hl hE ho ha hV hw3 hb3 sx lx hr3 hrl3 ha3 hrun hq hzw
    go_wp2_with (first | rw [HW3.out] | ((with_reducible refine store_run ?_ (.tmp 4) (.tmp 23) 54 ?_ ?_ ?_ hst0 ?_); exact rfl; exact rfl; exact rfl; exact rfl))
    exact bodyPost_ret (res_ct (.int .i64 e1) Tryd.results23 rfl rfl HF.out.2) rfl HF.out.1
  subst he1
  rw [if_pos rfl] at hrun
  by_cases hx1 : x.nx.length ≤ 1000
  rotate_left
  · rw [if_neg hx1] at hrun
    exact absurd (by rw [hrun]; rfl) hne
  rw [if_pos hx1] at hrun
  obtain ⟨w4, hw4⟩ : ∃ W, W = w3.alloc (.cells ((⟨hh, x, [], 0, rv0⟩ : Vw).row ⟨q.s0, .nil, .nil⟩).toArray 54) := ⟨_, rfl⟩
  have hb4 : Below w3.heap.size w3 w4 := by rw [hw4]; exact (Below.refl _ _).alloc (Nat.le_refl _) _
  have sv : SVar w4 w3.heap.size ((⟨hh, x, [], 0, rv0⟩ : Vw).row ⟨q.s0, .nil, .nil⟩) := by rw [hw4]; exact snew _ _ _
  have lv : Loc w0 b c r pb t1 G1 w4 w3.heap.size := by rw [hw4]; exact ha3.sys.fresh _
  have HW4 := Lib.hid hw4.symm
  have hz4 : w3.heap.size + 1 ≤ w4.heap.size := by rw [hw4]; simp
  have hz3 : w1.heap.size < w3.heap.size := sx.lt
  have hnz : x.nx.length = q.s0.n := by have := Sl.In.n (show q.s0.In G1 (ints x.nx) from hq); rw [ints_length] at this; exact this.symm
  obtain ⟨N, hN⟩ : ∃ N, N = x.nx.length := ⟨_, rfl⟩
  have HLK : Hid (LK w0 b c r pb po t G w w.heap.size w1.heap.size w3.heap.size ((lookP n hh).run s m) n hh x q (m.count + 1) 0 w4) :=
    ⟨[], none, 0, t1, G1, m1, s1, rfl, ha3.later hb4, hq, hr3.later hb4, hrl3.same hb4.size, sx.later hb4, lx.same hb4.size, sv, lv, GRow.nil _, by rw [hrun, List.drop_zero], by omega, hz4⟩
  have hld := sx.load sh27
  have c2 := (sx.later hb4).cell (i := 2) rfl
  have HN := Lib.hid hN
  have HZ2 := Lib.hid (⟨hzw, hz3, hzw0⟩ : _ ∧ _ ∧ _)
  have hN1 : (N : Int) ≤ 1000 := by omega
  have hqn : q.s0.n = N := by rw [hN, hnz]
  have HNe := Lib.hid hne
  have HC := Lib.hid hc
  simp only [Nd.row] at hld c2
  simp only [Vw.row, Pl.nil, Sl.nil, rv0] at HW4
  rw [hqn] at HW3 HW4 hld c2
  simp only [hqn]
  obtain ⟨whole, hwh⟩ : ∃ W, W = (lookP n hh).run s m := ⟨_, rfl⟩
  rw [← hwh] at HLK HNe
  have HWh := Lib.hid hwh
  clear hl hE ho ha hV hw3 hb3 sx lx hr3 hrl3 ha3 hrun hq hzw hw4 hb4 sv lv hz4 hz3 hN hx1 hct hne hc hwh hzw0 hnz hqn
  go_wp2_with (first | rw [HW3.out] | rw [HW4.out] | ((with_reducible refine load_run ?_ (.tmp 6) 38 ?_ ?_ hld ?_); exact rfl; exact rfl; exact rfl) | fail)
  clear c2 hld
  go_loopw [31] (fun iv wr => ∃ i : Nat, iv = .int .i64 (i : Int) ∧ i ≤ N ∧ Hid (LK w0 b c r pb po t G w w.heap.size w1.heap.size w3.heap.size whole n hh x q (m.count + 1) i wr)) (fun iv _ => N - (intOf iv).toNat)
  case atStart => exact ⟨0, rfl, Nat.zero_le _, HLK⟩
  case round =>
    obtain ⟨i, rfl, hi, HL⟩ := hrel
    obtain ⟨acc, a, cap, t2, G2, m2, s2, hai, hA, hin, hsr, hlr, hsn, hln, hsv, hlv, hg, hw, hcn, hzv⟩ := HL.out.ex
    by_cases hlt : i < N
    · have hlt2 : (i : Int) < (N : Int) := by omega
      obtain ⟨y, hy⟩ : ∃ y, x.nx[i]? = some y := ⟨_, List.getElem?_eq_getElem (by rw [← HN.out]; exact hlt)⟩
      obtain ⟨g, o, eg, cy, hgl⟩ := hA.sys.slcell (show q.s0.In G2 (ints x.nx) from hin) (ints_get hy)
      have hdr : x.nx.drop i = y :: x.nx.drop (i + 1) := by
        have h1 := (List.getElem?_eq_some_iff.1 hy)
        rw [List.drop_eq_getElem_cons h1.1, h1.2]
      have hl := eword hA.sys (by have := HC.out; omega) y
      have hct := ask_count s2 (.word y) m2
      have HS := Lib.hid (⟨hai, hA, hin, hsr, hlr, hsn, hln, hsv, hlv, hg, hcn, hzv⟩ : _ ∧ _ ∧ _ ∧ _ ∧ _ ∧ _ ∧ _ ∧ _ ∧ _ ∧ _ ∧ _ ∧ _)
      have HR : Hid (whole = (Pr.ask (.word y) fun a => ((if a.err = 0 then linksP (x.nx.drop (i + 1)) (acc ++ [a.n]) else .ret ([], a.err) : Pr (List Int × Int)).bind (lookK n hh x))).run s2 m2) := by rw [hw, hdr]; rfl
      have hct2 : (s2.ask (.word y) m2).2.2.count ≤ m2.count + 1 := hct.2.1
      have HCt := Lib.hid hct2
      have eg2 : q.s0.a = some ⟨g, o, none⟩ := eg
      have hat : ∀ W, (Instr.indexAt 27 (.slice q.s0.a N q.s0.cap) (.int .i64 (i : Int))).run Tryd.prog W = .ok (.pointer (some ⟨g, o + i, none⟩)) W := fun W => by rw [eg2]; exact at_27 g o N q.s0.cap i hlt W
      clear hai hA hin hsr hlr hsn hln hsv hlv hg hw hcn hzv hdr hct HL HLK hct2 eg eg2
      go_wp2_with fail
      refine hl.mono ?_
      rintro e w2 hE
      rcases hE.cases with ⟨t3, G3, s3, m3, ho, rfl, ha⟩ | ⟨t3, G3, s3, m3, y1, v, ho, rfl, rfl, ha⟩
      · have HX : Hid (Ev w0 b c r pb po t G w RVw ((lookP n hh).run s m) (Halt pb po) w2) := Ev.die (by rw [← HWh.out, HR.out, Pr.run_ask, ho]) (HS.out.2.1.trans ha)
        clear hl hE ho ha hat cy hgl
        unfold Halt
        go_wp2
        exact ⟨rfl, HX.out⟩
      obtain ⟨hai, hA, hin, hsr, hlr, hsn, hln, hsv, hlv, hg, hcn, hzv⟩ := HS.out
      obtain ⟨sr3, lr3⟩ := ha.svar hlr hsr
      obtain ⟨sn3, ln3⟩ := ha.svar hln hsn
      obtain ⟨sv3, lv3⟩ := ha.svar hlv hsv
      have hA3 := hA.trans ha
      have hrun := HR.out
      rw [Pr.run_ask, ho] at hrun
      simp only at hrun
      have hct3 := HCt.out
      rw [ho] at hct3
      simp only at hct3
      by_cases he : y1.err = 0
      rotate_left
      · rw [if_neg he] at hrun
        have hrun2 : whole = (some (some (vw0, y1.err)), s3, m3) := by rw [hrun]; show (lookK n hh x ([], y1.err)).run s3 m3 = _; rw [lookK, if_neg he]; rfl
        have HF : Hid (Ev w0 b c r pb po t G w RVw ((lookP n hh).run s m) (.returned (.tuple #[.agg #[.int .i64 0, .string ⟨#[]⟩, .int .i64 0, .slice none 0 0, .slice none 0 0, .int .i64 0, .int .i64 0, .int .i64 0, .string ⟨#[]⟩, .string ⟨#[]⟩, .bool false, .bool false, .slice none 0 0, .slice none 0 0, .slice none 0 0, .slice none 0 0], .int .i64 y1.err])) (sput w2 w.heap.size (vw0.row vs0)) ∧ (Go.loadVar 54 ⟨w.heap.size, 0, none⟩).run Tryd.prog (sput w2 w.heap.size (vw0.row vs0)) = .ok (.agg #[.int .i64 0, .string ⟨#[]⟩, .int .i64 0, .slice none 0 0, .slice none 0 0, .int .i64 0, .int .i64 0, .int .i64 0, .string ⟨#[]⟩, .string ⟨#[]⟩, .bool false, .bool false, .slice none 0 0, .slice none 0 0, .slice none 0 0, .slice none 0 0]) (sput w2 w.heap.size (vw0.row vs0))) :=
          ⟨Ev.ret (a := some (vw0, y1.err)) (by rw [← HWh.out, hrun2]) ⟨_, vs0, rfl, vw0_in, rfl⟩ (hA3.aside (But.sput _ _ _) lr3 (Nat.le_refl _)), (sr3.put (row' := vw0.row vs0) rfl).loadVar sh54⟩
        have hst0 := sr3.store (row' := vw0.row vs0) rfl sh54 (vw0.row_one vs0)
        generalize sput w2 w.heap.size (vw0.row vs0) = W at HF hst0
        simp only [Vw.row, vw0, nd0, rv0, vs0, Pl.nil, Sl.nil] at hst0
        clear hl hE ho ha hai hA hin hsr hlr hsn hln hsv hlv hg hcn hzv sr3 lr3 sn3 ln3 sv3 lv3 hA3 hrun hrun2 hct3 hat cy hgl HS HR HCt
        go_wp2_with (first | ((with_reducible refine store_run ?_ (.tmp 4) (.tmp 43) 54 ?_ ?_ ?_ hst0 ?_); exact rfl; exact rfl; exact rfl; exact rfl))
        exact bodyPost_ret (res_ct (.int .i64 y1.err) Tryd.results23 rfl rfl HF.out.2) rfl HF.out.1
      rw [if_pos he] at hrun
      obtain ⟨wb, hwb⟩ : ∃ W, W = w2.alloc (.cells #[.int .i64 y1.n] 3) := ⟨_, rfl⟩
      have hbb : Below w2.heap.size w2 wb := by rw [hwb]; exact (Below.refl _ _).alloc (Nat.le_refl _) _
      have hwz := ha.but.size
      have hzz := HZ2.out
      have hai2 : acc.length ≤ 1000 := by omega
      have hap := fun ty => (let ⟨i0, hi, hz0, hz1, hz2⟩ := info_parts info3; GRow.app 27 8 i0 _ Tryd.underlying27 hi hz0 hz1 hz2 rfl (by decide) ((hg.aft ha).later hbb) (hA3.later hbb) (by omega) (by omega) (by have := hbb.size; omega) ⟨w2.heap.size, 0, none⟩ 1 1 [.int .i64 y1.n] rfl (fun j u hu => by
        rw [add_off, hwb]
        have := (snew w2 [.int .i64 y1.n] 3).at_ j u hu
        simpa using this) (by intro u hu; simp at hu; subst hu; rfl) (by omega) (by decide) ty)
      have HAp : Hid (∀ ty, ∃ v' w5, (Builtin.append_ #[27, 27] ty #[.slice a acc.length cap, .slice (some ⟨w2.heap.size, 0, none⟩) 1 1]).run Tryd.prog wb = .ok v' w5 ∧ ∃ a' cap', v' = .slice a' (acc.length + 1) cap' ∧ w5.cell? ⟨w3.heap.size, 4, none⟩ = some (.slice a acc.length cap) ∧ w5.frozen? ⟨w3.heap.size, 4, none⟩ = false ∧ Hid (LK w0 b c r pb po t G w w.heap.size w1.heap.size w3.heap.size whole n hh x q (m.count + 1) (i + 1) (w5.setCell ⟨w3.heap.size, 4, none⟩ (.slice a' (acc.length + 1) cap')))) := by
        intro ty
        obtain ⟨v', w5, h1, h2, h3, h4, h5⟩ := hap ty
        obtain ⟨a', cap', rfl⟩ : ∃ a' cap', v' = .slice a' (acc.length + 1) cap' := by
          rcases h3.val with ⟨_, q⟩ | ⟨g, cap', q, -⟩
          · omega
          · exact ⟨_, cap', q⟩
        have big : ∀ z, z < w3.heap.size + 1 → w5.heap[z]? = w2.heap[z]? := fun z hz => (h5.1.block z hz).trans (hbb.block z (by omega))
        have sz : w2.heap.size ≤ w5.heap.size := Nat.le_trans hbb.size h4
        have sv5 := sv3.same sz (big _ (Nat.lt_succ_self _))
        have sr5 := sr3.same sz (big w.heap.size (by omega))
        have sn5 := sn3.same sz (big w1.heap.size (by omega))
        refine ⟨_, w5, h1, a', cap', rfl, sv5.cell (i := 4) rfl, sv5.fz _, ?_⟩
        have b6 : But w3.heap.size w5 (w5.setCell ⟨w3.heap.size, 4, none⟩ (.slice a' (acc.length + 1) cap')) := (But.refl _ _).set _ _
        have hl1 : (acc ++ [y1.n]).length = acc.length + 1 := by simp
        refine ⟨acc ++ [y1.n], a', cap', t3, G3, m3, s3, by rw [hl1, hai], h2.aside b6 (lv3.same sz) (by omega), hin.more (fun z hz => ha.gro.1 z hz), sr5.same b6.size (b6.block _ sr5.lt (by omega)), (lr3.same sz).same b6.size, sn5.same b6.size (b6.block _ sn5.lt (by omega)), (ln3.same sz).same b6.size, ?_, (lv3.same sz).same b6.size, ?_, ?_, by push_cast; omega, by have := b6.size; have := sv5.lt; omega⟩
        · rw [hl1]; exact sv5.set (i := 4) (by simp [Vw.row]) _
        · rw [hl1, show ints (acc ++ [y1.n]) = ints acc ++ [.int .i64 y1.n] by simp [ints]]
          exact h3.but b6 (Nat.lt_succ_self _)
        · exact hrun
      have c4 := sv3.cell (i := 4) rfl
      have HWB := Lib.hid hwb.symm
      have c4b := (sv3.later hbb).cell (i := 4) rfl
      simp only at c4 c4b
      clear hl hE ho ha hai hA hin hsr hlr hsn hln hsv hlv hg hcn hzv sr3 lr3 sn3 ln3 sv3 lv3 hA3 hrun hct3 hwb hbb hwz hzz hap hat cy hgl HS HR HCt c4b
      go_wp2_with (first | rw [HWB.out] | (at_builtin; refine append_run2 rfl (.tmp 46) (.tmp 48) 27 rfl rfl rfl HAp.out ?_; rintro v' w5 ⟨a', cap', rfl, c5, f5, HN2⟩; clear HAp) | fail)
      go_roundw
      case rel => exact ⟨i + 1, by simp, by omega, HN2⟩
      case measure => simp [intOf]; omega
    · obtain rfl : i = N := by omega
      have hdr : x.nx.drop i = [] := by rw [HN.out]; exact List.drop_length
      rw [hdr] at hw
      have hw2 : whole = ((newestP n x.head).bind fun o => .ret (o.map fun z => if z.2 = 0 then ((⟨hh, x, acc, z.1.h, z.1.a.r⟩ : Vw), (0 : Int)) else (vw0, z.2)) : Pr (Option (Vw × Int))).run s2 m2 := by
        rw [hw]; show (lookK n hh x (acc, 0)).run s2 m2 = _; rw [lookK, if_pos rfl]
      have hne2 : ((newestP n x.head).run s2 m2).1 ≠ some none := fun e => HNe.out (by
        rw [hw2, Pr.run_bind]
        generalize (newestP n x.head).run s2 m2 = u at e
        obtain ⟨_, s4, m4⟩ := u
        simp only at e
        subst e
        rfl)
      have hl := Newest_E hA.sys n (by have := HC.out; omega) x q hne2
      have hld := hsn.load sh27
      have hqn2 : q.s0.n = i := by have := Sl.In.n (show q.s0.In G2 (ints x.nx) from hin); rw [ints_length] at this; rw [this, ← HN.out]
      have HS := Lib.hid (⟨hA, hin, hsr, hlr, hsv, hlv, hg⟩ : _ ∧ _ ∧ _ ∧ _ ∧ _ ∧ _ ∧ _)
      have HR := Lib.hid hw2
      have HQ := Lib.hid hqn2
      have HAi := Lib.hid hai
      unfold Nd.v at hl
      simp only [Nd.row] at hld
      rw [hqn2] at hld hl
      clear hai hA hin hsr hlr hsn hln hsv hlv hg hcn hzv hdr hw hw2 hne2 HL HLK hi hqn2
      have hlt2 : ¬ (i : Int) < (i : Int) := by omega
      go_wp2_with (first | ((with_reducible refine load_run ?_ (.tmp 6) 38 ?_ ?_ hld ?_); exact rfl; exact rfl; exact rfl) | fail)
      refine hl.mono ?_
      rintro e w3' hE
      rcases hE.cases with ⟨t3, G3, s3, m3, ho, rfl, ha⟩ | ⟨t3, G3, s3, m3, o1, v1, ho, rfl, ⟨z, p, rfl, hp, rfl⟩, ha⟩
      · have HX : Hid (Ev w0 b c r pb po t G w RVw ((lookP n hh).run s m) (Halt pb po) w3') := Ev.die (by rw [← HWh.out, HR.out, Pr.bind_none ho]) (HS.out.1.trans ha)
        clear hl hE ho ha hld
        unfold Halt
        go_wp2
        exact ⟨rfl, HX.out⟩
      obtain ⟨hA, hin, hsr, hlr, hsv, hlv, hg⟩ := HS.out
      obtain ⟨sr3, lr3⟩ := ha.svar hlr hsr
      obtain ⟨sv3, lv3⟩ := ha.svar hlv hsv
      have hg3 := hg.aft ha
      have hA3 := hA.trans ha
      have hrun : whole = (some (some (if z.2 = 0 then ((⟨hh, x, acc, z.1.h, z.1.a.r⟩ : Vw), (0 : Int)) else (vw0, z.2))), s3, m3) := by rw [HR.out, Pr.bind_some ho]; rfl
      obtain ⟨w5, hw5⟩ : ∃ W, W = w3'.alloc (.cells (z.1.a.row p).toArray 57) := ⟨_, rfl⟩
      have hb5 : Below w3'.heap.size w3' w5 := by rw [hw5]; exact (Below.refl _ _).alloc (Nat.le_refl _) _
      have sa : SVar w5 w3'.heap.size (z.1.a.row p) := by rw [hw5]; exact snew _ _ _
      have sr5 := sr3.later hb5
      have lr5 := lr3.same hb5.size
      have HW5 := Lib.hid hw5.symm
      unfold Ag.v
      simp only [Ag.row] at HW5
      by_cases hz : z.2 = 0
      rotate_left
      · rw [if_neg hz] at hrun
        have HF : Hid (Ev w0 b c r pb po t G w RVw ((lookP n hh).run s m) (.returned (.tuple #[.agg #[.int .i64 0, .string ⟨#[]⟩, .int .i64 0, .slice none 0 0, .slice none 0 0, .int .i64 0, .int .i64 0, .int .i64 0, .string ⟨#[]⟩, .string ⟨#[]⟩, .bool false, .bool false, .slice none 0 0, .slice none 0 0, .slice none 0 0, .slice none 0 0], .int .i64 z.2])) (sput w5 w.heap.size (vw0.row vs0)) ∧ (Go.loadVar 54 ⟨w.heap.size, 0, none⟩).run Tryd.prog (sput w5 w.heap.size (vw0.row vs0)) = .ok (.agg #[.int .i64 0, .string ⟨#[]⟩, .int .i64 0, .slice none 0 0, .slice none 0 0, .int .i64 0, .int .i64 0, .int .i64 0, .string ⟨#[]⟩, .string ⟨#[]⟩, .bool false, .bool false, .slice none 0 0, .slice none 0 0, .slice none 0 0, .slice none 0 0]) (sput w5 w.heap.size (vw0.row vs0))) :=
          ⟨Ev.ret (a := some (vw0, z.2)) (by rw [← HWh.out, hrun]) ⟨_, vs0, rfl, vw0_in, rfl⟩ ((hA3.later hb5).aside (But.sput _ _ _) lr5 (Nat.le_refl _)), (sr5.put (row' := vw0.row vs0) rfl).loadVar sh54⟩
        have hst0 := sr5.store (row' := vw0.row vs0) rfl sh54 (vw0.row_one vs0)
        generalize sput w5 w.heap.size (vw0.row vs0) = W at HF hst0
        simp only [Vw.row, vw0, nd0, rv0, vs0, Pl.nil, Sl.nil] at hst0
        clear hl hE ho ha hld hA hin hsr hlr hsv hlv hg sr3 lr3 sv3 lv3 hg3 hA3 hrun hw5 hb5 sa sr5 lr5 hp HS HR
        go_wp2_with (first | rw [HW5.out] | ((with_reducible refine store_run ?_ (.tmp 4) (.tmp 61) 54 ?_ ?_ ?_ hst0 ?_); exact rfl; exact rfl; exact rfl; exact rfl))
        exact bodyPost_ret (res_ct (.int .i64 z.2) Tryd.results23 rfl rfl HF.out.2) rfl HF.out.1
      rw [if_pos hz] at hrun
      have hzz := HZ2.out
      have hwz := hA.but.size
      have hwz3 := ha.but.size
      obtain ⟨sl, G4, esl, hsl, hA4, hG4, hL4⟩ := (hg3.later hb5).freeze (hA3.later hb5) (by omega) (by have := HAi.out; omega)
      have sv5 := sv3.later hb5
      have lv5 := lv3.same hb5.size
      have sv5' : SVar w5 w3.heap.size ((⟨hh, x, acc, 0, rv0⟩ : Vw).row ⟨q.s0, sl, .nil⟩) := by
        have e : (Value.slice a acc.length cap) = .slice sl.a sl.n sl.cap := esl
        injection e with e1 e2 e3
        have : (⟨a, acc.length, cap⟩ : Sl) = sl := by rw [e1, e2, e3]
        rw [← this]; exact sv5
      have hin4 : (⟨hh, x, acc, z.1.h, z.1.a.r⟩ : Vw).In G4 ⟨q.s0, sl, p⟩ := ⟨(Sl.In.more (show q.s0.In G2 (ints x.nx) from hin) fun y hy => ha.gro.1 y hy).more hG4, hsl, Dat.In.more (d := .age z.1.a.r z.1.a.pv) hp hG4⟩
      have hlr4 := hL4 _ lr5 (by omega)
      have hlv4 := hL4 _ lv5 (Nat.lt_succ_self _)
      have hfin : ∀ W, Below w5.heap.size w5 W → (Instr.storeAt 3 (.pointer (some ⟨w3.heap.size, 5, none⟩)) (.int .i64 z.1.h)).run Tryd.prog W = .ok () (W.setCell ⟨w3.heap.size, 5, none⟩ (.int .i64 z.1.h)) ∧ SVar W w3'.heap.size (z.1.a.row p) ∧ (SVar (W.setCell ⟨w3.heap.size, 5, none⟩ (.int .i64 z.1.h)) w3'.heap.size (z.1.a.row p) ∧ (Instr.storeAt 52 (.pointer (some ⟨w3.heap.size, 6, none⟩)) (.agg (z.1.a.r.row p).toArray)).run Tryd.prog (W.setCell ⟨w3.heap.size, 5, none⟩ (.int .i64 z.1.h)) = .ok () ((W.setCell ⟨w3.heap.size, 5, none⟩ (.int .i64 z.1.h)).setCells w3.heap.size 6 (z.1.a.r.row p)) ∧ (SVar ((W.setCell ⟨w3.heap.size, 5, none⟩ (.int .i64 z.1.h)).setCells w3.heap.size 6 (z.1.a.r.row p)) w3.heap.size ((⟨hh, x, acc, z.1.h, z.1.a.r⟩ : Vw).row ⟨q.s0, sl, p⟩) ∧ ∃ W', (Instr.storeAt 54 (.pointer (some ⟨w.heap.size, 0, none⟩)) (.agg ((⟨hh, x, acc, z.1.h, z.1.a.r⟩ : Vw).row ⟨q.s0, sl, p⟩).toArray)).run Tryd.prog ((W.setCell ⟨w3.heap.size, 5, none⟩ (.int .i64 z.1.h)).setCells w3.heap.size 6 (z.1.a.r.row p)) = .ok () W' ∧ Ev w0 b c r pb po t G w RVw ((lookP n hh).run s m) (.returned (.tuple #[.agg #[.int .i64 hh, .string x.low, .int .i64 x.head, .slice q.s0.a q.s0.n q.s0.cap, .slice sl.a sl.n sl.cap, .int .i64 z.1.h, .int .i64 z.1.a.r.ver, .int .i64 z.1.a.r.rate, .string z.1.a.r.lo, .string z.1.a.r.hi, .bool z.1.a.r.all, .bool z.1.a.r.dead, .slice p.s0.a p.s0.n p.s0.cap, .slice p.s1.a p.s1.n p.s1.cap, .slice p.s2.a p.s2.n p.s2.cap, .slice p.s3.a p.s3.n p.s3.cap], .int .i64 0])) W' ∧ (Go.loadVar 54 ⟨w.heap.size, 0, none⟩).run Tryd.prog W' = .ok (.agg #[.int .i64 hh, .string x.low, .int .i64 x.head, .slice q.s0.a q.s0.n q.s0.cap, .slice sl.a sl.n sl.cap, .int .i64 z.1.h, .int .i64 z.1.a.r.ver, .int .i64 z.1.a.r.rate, .string z.1.a.r.lo, .string z.1.a.r.hi, .bool z.1.a.r.all, .bool z.1.a.r.dead, .slice p.s0.a p.s0.n p.s0.cap, .slice p.s1.a p.s1.n p.s1.cap, .slice p.s2.a p.s2.n p.s2.cap, .slice p.s3.a p.s3.n p.s3.cap]) W')) := fun W hW => by
        have svW := sv5'.later hW
        have b1 : But w3.heap.size W (W.setCell ⟨w3.heap.size, 5, none⟩ (.int .i64 z.1.h)) := (But.refl _ _).set _ _
        have b2 : But w3.heap.size (W.setCell ⟨w3.heap.size, 5, none⟩ (.int .i64 z.1.h)) ((W.setCell ⟨w3.heap.size, 5, none⟩ (.int .i64 z.1.h)).setCells w3.heap.size 6 (z.1.a.r.row p)) := sput_but _ _ _ 6
        have saW := sa.later hW
        have sa1 := saW.same b1.size (b1.block _ saW.lt (by have := lv3.lt; omega))
        have sv1 : SVar (W.setCell ⟨w3.heap.size, 5, none⟩ (.int .i64 z.1.h)) w3.heap.size ((⟨hh, x, acc, z.1.h, rv0⟩ : Vw).row ⟨q.s0, sl, .nil⟩) := svW.set (i := 5) (by simp [Vw.row]) _
        have sv2 := svW.viewPut z.1.h z.1.a.r p
        have srW := sr5.later hW
        have sr1 := srW.same b1.size (b1.block _ srW.lt (by omega))
        have sr2 := sr1.same b2.size (b2.block _ sr1.lt (by omega))
        have lr2 := ((hlr4.same hW.size).same b1.size).same b2.size
        have hA6 := ((hA4.later hW).aside b1 (hlv4.same hW.size) (by omega)).aside b2 ((hlv4.same hW.size).same b1.size) (by omega)
        refine ⟨?_, saW, sa1, sv1.storeMid 6 (z.1.a.r.row p) (by simp [Vw.row, Rv.row]) sh40 (z.1.a.r.row_one p), sv2, _, sr2.store (row' := (⟨hh, x, acc, z.1.h, z.1.a.r⟩ : Vw).row ⟨q.s0, sl, p⟩) rfl sh54 (Vw.row_one _ _), Ev.ret (a := some (⟨hh, x, acc, z.1.h, z.1.a.r⟩, 0)) (by rw [← HWh.out, hrun]) ⟨_, ⟨q.s0, sl, p⟩, rfl, hin4, rfl⟩ (hA6.aside (But.sput _ _ _) lr2 (Nat.le_refl _)), (sr2.put (row' := (⟨hh, x, acc, z.1.h, z.1.a.r⟩ : Vw).row ⟨q.s0, sl, p⟩) rfl).loadVar sh54⟩
        have c5 := svW.cell (i := 5) rfl
        have f5 := svW.fz 5
        simp only at c5
        go_simp
      have HFin := Lib.hid hfin
      rw [hz]
      clear hl hE ho ha hld hA hin hsr hlr hsv hlv hg sr3 lr3 sv3 lv3 hg3 hA3 hrun hw5 hb5 sa sr5 lr5 hp HS HR hzz hwz hwz3 esl hsl hA4 hG4 hL4 sv5 lv5 sv5' hin4 hlr4 hlv4 hfin
      go_wp2_with (first | rw [HW5.out] | fail)
      refine FreeV.region_puts (S := LS2 w5 (fun V => SVar V w3'.heap.size (z.1.a.row p)) (fun V => (Instr.storeAt 52 (.pointer (some ⟨w3.heap.size, 6, none⟩)) (.agg (z.1.a.r.row p).toArray)).run Tryd.prog V = .ok () (V.setCells w3.heap.size 6 (z.1.a.r.row p)) ∧ (fun V => SVar V w3.heap.size ((⟨hh, x, acc, z.1.h, z.1.a.r⟩ : Vw).row ⟨q.s0, sl, p⟩) ∧ ∃ W', (Instr.storeAt 54 (.pointer (some ⟨w.heap.size, 0, none⟩)) (.agg ((⟨hh, x, acc, z.1.h, z.1.a.r⟩ : Vw).row ⟨q.s0, sl, p⟩).toArray)).run Tryd.prog V = .ok () W' ∧ Ev w0 b c r pb po t G w RVw ((lookP n hh).run s m) (.returned (.tuple #[.agg #[.int .i64 hh, .string x.low, .int .i64 x.head, .slice q.s0.a q.s0.n q.s0.cap, .slice sl.a sl.n sl.cap, .int .i64 z.1.h, .int .i64 z.1.a.r.ver, .int .i64 z.1.a.r.rate, .string z.1.a.r.lo, .string z.1.a.r.hi, .bool z.1.a.r.all, .bool z.1.a.r.dead, .slice p.s0.a p.s0.n p.s0.cap, .slice p.s1.a p.s1.n p.s1.cap, .slice p.s2.a p.s2.n p.s2.cap, .slice p.s3.a p.s3.n p.s3.cap], .int .i64 0])) W' ∧ (Go.loadVar 54 ⟨w.heap.size, 0, none⟩).run Tryd.prog W' = .ok (.agg #[.int .i64 hh, .string x.low, .int .i64 x.head, .slice q.s0.a q.s0.n q.s0.cap, .slice sl.a sl.n sl.cap, .int .i64 z.1.h, .int .i64 z.1.a.r.ver, .int .i64 z.1.a.r.rate, .string z.1.a.r.lo, .string z.1.a.r.hi, .bool z.1.a.r.all, .bool z.1.a.r.dead, .slice p.s0.a p.s0.n p.s0.cap, .slice p.s1.a p.s1.n p.s1.cap, .slice p.s2.a p.s2.n p.s2.cap, .slice p.s3.a p.s3.n p.s3.cap]) W') (V.setCells w3.heap.size 6 (z.1.a.r.row p))) (fun V => SVar V w3.heap.size ((⟨hh, x, acc, z.1.h, z.1.a.r⟩ : Vw).row ⟨q.s0, sl, p⟩) ∧ ∃ W', (Instr.storeAt 54 (.pointer (some ⟨w.heap.size, 0, none⟩)) (.agg ((⟨hh, x, acc, z.1.h, z.1.a.r⟩ : Vw).row ⟨q.s0, sl, p⟩).toArray)).run Tryd.prog V = .ok () W' ∧ Ev w0 b c r pb po t G w RVw ((lookP n hh).run s m) (.returned (.tuple #[.agg #[.int .i64 hh, .string x.low, .int .i64 x.head, .slice q.s0.a q.s0.n q.s0.cap, .slice sl.a sl.n sl.cap, .int .i64 z.1.h, .int .i64 z.1.a.r.ver, .int .i64 z.1.a.r.rate, .string z.1.a.r.lo, .string z.1.a.r.hi, .bool z.1.a.r.all, .bool z.1.a.r.dead, .slice p.s0.a p.s0.n p.s0.cap, .slice p.s1.a p.s1.n p.s1.cap, .slice p.s2.a p.s2.n p.s2.cap, .slice p.s3.a p.s3.n p.s3.cap], .int .i64 0])) W' ∧ (Go.loadVar 54 ⟨w.heap.size, 0, none⟩).run Tryd.prog W' = .ok (.agg #[.int .i64 hh, .string x.low, .int .i64 x.head, .slice q.s0.a q.s0.n q.s0.cap, .slice sl.a sl.n sl.cap, .int .i64 z.1.h, .int .i64 z.1.a.r.ver, .int .i64 z.1.a.r.rate, .string z.1.a.r.lo, .string z.1.a.r.hi, .bool z.1.a.r.all, .bool z.1.a.r.dead, .slice p.s0.a p.s0.n p.s0.cap, .slice p.s1.a p.s1.n p.s1.cap, .slice p.s2.a p.s2.n p.s2.cap, .slice p.s3.a p.s3.n p.s3.cap]) W')) (effs := [4, 6])
        (tab := [⟨2, fun _ => [.pointer (some ⟨w3'.heap.size, 0, none⟩)], fun _ => .agg #[.int .i64 z.1.a.r.ver, .int .i64 z.1.a.r.rate, .string z.1.a.r.lo, .string z.1.a.r.hi, .bool z.1.a.r.all, .bool z.1.a.r.dead, .slice p.s0.a p.s0.n p.s0.cap, .slice p.s1.a p.s1.n p.s1.cap, .slice p.s2.a p.s2.n p.s2.cap, .slice p.s3.a p.s3.n p.s3.cap], .read⟩,
          ⟨4, fun _ => [.pointer (some ⟨w3.heap.size, 5, none⟩), .int .i64 z.1.h], fun _ => undef, .put⟩,
          ⟨6, fun _ => [.pointer (some ⟨w3.heap.size, 6, none⟩), .agg #[.int .i64 z.1.a.r.ver, .int .i64 z.1.a.r.rate, .string z.1.a.r.lo, .string z.1.a.r.hi, .bool z.1.a.r.all, .bool z.1.a.r.dead, .slice p.s0.a p.s0.n p.s0.cap, .slice p.s1.a p.s1.n p.s1.cap, .slice p.s2.a p.s2.n p.s2.cap, .slice p.s3.a p.s3.n p.s3.cap]], fun _ => undef, .put⟩])
        (vs := [([], fun _ => .int .i64 z.1.h), ([], fun _ => .pointer (some ⟨w3'.heap.size, 0, none⟩)), ([], fun _ => .agg #[.int .i64 z.1.a.r.ver, .int .i64 z.1.a.r.rate, .string z.1.a.r.lo, .string z.1.a.r.hi, .bool z.1.a.r.all, .bool z.1.a.r.dead, .slice p.s0.a p.s0.n p.s0.cap, .slice p.s1.a p.s1.n p.s1.cap, .slice p.s2.a p.s2.n p.s2.cap, .slice p.s3.a p.s3.n p.s3.cap]), ([], fun _ => .pointer (some ⟨w3.heap.size, 5, none⟩)), ([], fun _ => undef), ([], fun _ => .pointer (some ⟨w3.heap.size, 6, none⟩)), ([], fun _ => undef)])
        (by kernel_rfl) ⟨by kernel_rfl, ⟨FreeV.d_load _ rfl rfl (fun β bs W hS hd => load_mid (sub := z.1.a.r.row p) (Ag.revAt (hS.rd ((hd 1 6 rfl).2 (.inl (by kernel_rfl))))) sh40),
          FreeV.d_store _ rfl rfl 0 rfl (fun β bs W hS hd => ⟨_, (HFin.out W (hS.one ((hd 0 4 rfl).2 (.inr rfl)))).1, ls2_first ((hd 0 4 rfl).2 (.inr rfl)) ((hd 1 6 rfl).2 (.inl (by kernel_rfl))) (HFin.out W (hS.one ((hd 0 4 rfl).2 (.inr rfl)))).2.2.1 (HFin.out W (hS.one ((hd 0 4 rfl).2 (.inr rfl)))).2.2.2⟩),
          FreeV.d_store _ rfl rfl 1 rfl (fun β bs W hS hd => ⟨_, (hS.two ((hd 0 4 rfl).1 (by kernel_rfl)) ((hd 1 6 rfl).2 (.inr rfl))).1, ls2_second ((hd 0 4 rfl).1 (by kernel_rfl)) ((hd 1 6 rfl).2 (.inr rfl)) (hS.two ((hd 0 4 rfl).1 (by kernel_rfl)) ((hd 1 6 rfl).2 (.inr rfl))).2⟩),
          trivial⟩,
          fun β => by kernel_rfl, fun β => by kernel_rfl, by kernel_rfl, fun β => by kernel_rfl, by kernel_rfl⟩ (ls2_start (HFin.out _ (Below.refl _ _).drew).2.1) (fun β => Free.from_ 63 [.int .i64 z.1.h, .pointer (some ⟨w3'.heap.size, 0, none⟩), .agg #[.int .i64 z.1.a.r.ver, .int .i64 z.1.a.r.rate, .string z.1.a.r.lo, .string z.1.a.r.hi, .bool z.1.a.r.all, .bool z.1.a.r.dead, .slice p.s0.a p.s0.n p.s0.cap, .slice p.s1.a p.s1.n p.s1.cap, .slice p.s2.a p.s2.n p.s2.cap, .slice p.s3.a p.s3.n p.s3.cap], .pointer (some ⟨w3.heap.size, 5, none⟩), .pointer (some ⟨w3.heap.size, 6, none⟩)]) (fun β => by kernel_rfl) ?_
      intro β w6 h6
      rw [Free.puts_from _ _ _ (Nat.le_of_ble_eq_true rfl)]
      simp only [List.take_succ_cons, List.take_zero, List.drop_succ_cons, List.drop_zero, List.cons_append, List.nil_append, List.length_cons, List.length_nil, Nat.reduceAdd]
      obtain ⟨hv, W', hst, HX, HY⟩ := h6.three rfl
      have hld := hv.load sh54
      have HE := Lib.hid HX
      have HF := Lib.hid HY
      simp only [Vw.row] at hld hst
      clear h6 hv HX HY HFin
      go_wp2_with (first | ((with_reducible refine load_run ?_ (.tmp 8) 54 ?_ ?_ hld ?_); exact rfl; exact rfl; exact rfl) | ((with_reducible refine store_run ?_ (.tmp 4) (.tmp 68) 54 ?_ ?_ ?_ hst ?_); exact rfl; exact rfl; exact rfl; exact rfl) | fail)
      exact bodyPost_ret (res_ct (.int .i64 0) Tryd.results23 rfl rfl HF.out) rfl HE.out
end
end Go.Proofs.YtibimnibmengpaaDoor
