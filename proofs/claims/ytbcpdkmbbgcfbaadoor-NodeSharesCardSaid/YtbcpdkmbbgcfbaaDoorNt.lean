/- What the law's lay comes to: a chain, a node, the yard. Condition: the library's table stands. -/
import Derived.Test.YtbcpdkmbbgcfbaaDoorNq
namespace Go.Proofs.YtbcpdkmbbgcfbaaDoor
open Go.RowKit Go.Op
set_option maxRecDepth 100000

/-- A yard but for its memory. -/
structure Yd where
  H : Int
  n : Nd
  pn : Sl
  ch : Sl
  hs : Sl
def Yd.row (b : Nat) (y : Yd) : List Value := [.pointer (some ⟨b, 0, none⟩), .int .i64 y.H, .string y.n.low, .int .i64 y.n.head, .slice y.pn.a y.pn.n y.pn.cap, .slice y.ch.a y.ch.n y.ch.cap, .slice y.hs.a y.hs.n y.hs.cap]
def Yd.v (b : Nat) (y : Yd) : Value := .agg #[.pointer (some ⟨b, 0, none⟩), .int .i64 y.H, .string y.n.low, .int .i64 y.n.head, .slice y.pn.a y.pn.n y.pn.cap, .slice y.ch.a y.ch.n y.ch.cap, .slice y.hs.a y.hs.n y.hs.cap]
def yd0 : Yd := ⟨0, nd0, .nil, .nil, .nil⟩
theorem as4_yes (x : Bool) (w : World) : (Instr.typeAssert (.iface 4 (.bool x)) 20 4 true).run Tryd.prog w = .ok (.tuple #[.bool x, .bool true]) w := by kernel_rfl
theorem mkb4 (x : Value) (w : World) : (Instr.makeInterface 4 x).run Tryd.prog w = .ok (.iface 4 x) w := run_makeInterface w 4 x (by kernel_rfl)
theorem ptr_eq24 (a : Addr) (w : World) : (binOp .eql 24 (.pointer (some a)) (.pointer none)).run Tryd.prog w = .ok (.bool false) w := by kernel_rfl
theorem HasE.ge {w0 w : World} {b c r : Nat} {G : List (Nat × List Value)} {m : M} (h : HasE w0 b c r G w m) : w0.heap.size ≤ b ∧ w0.heap.size ≤ c ∧ w0.heap.size ≤ r ∧ Below w0.heap.size w0 w := by
  obtain ⟨m0, h1, -⟩ := h
  exact ⟨h1.hb, h1.hc, h1.hr, h1.below⟩
theorem LocM.cellD {w0 w : World} {b c r pb : Nat} {Z : List Nat} {t1 : Value} {G G1 : List (Nat × List Value)} {w1 : World} {m1 : M} {s1 : Pt} {z i : Nat} {v : Value} (hz : z ∉ Z) (hlt : z < w.heap.size) (hd : Dgo w0 b c r pb Z w t1 G G1 w1 m1 s1) (hc : w.cell? ⟨z, i, none⟩ = some v) : w1.cell? ⟨z, i, none⟩ = some v := by
  rw [World.cell?_of_block (w := w) (a := ⟨z, i, none⟩) (hd.but.block z hlt hz)]
  exact hc
def u8s (bs : List Nat) : List Value := bs.map fun (b : Nat) => Value.int .u8 (b : Int)
/-- Bytes that stand in a block of others. -/
structure Bys (w : World) (Z : List Nat) (a : Option Addr) (bs : List Nat) : Prop where
  le : ∀ b, b ∈ bs → b ≤ 255
  row : bs = [] ∨ ∃ g o, a = some ⟨g, o, none⟩ ∧ g < w.heap.size ∧ g ∉ Z ∧ w.rangeAt g o (u8s bs)
section
variable {w0 w : World} {b c r : Nat} {G : List (Nat × List Value)} {zy zo zb : Nat}
/-- Within lay's loop. -/
def LyX (w0 : World) (b c r : Nat) (G : List (Nat × List Value)) (w : World) (zy zo : Nat) (bs : List Nat) (i : Nat) (h : Int) (W : World) : Prop :=
  ∃ t1 G1 m1 l a1 c1 a2 c2, Dgo w0 b c r w.heap.size [b, c, r, zy, zo] w t1 G G1 W m1 (ptDo w b) ∧ YC m1 h l ∧ l.length = i ∧ l.map (fun x => x.2.1.ver) = vers (bs.take i).reverse ∧ SVar W zy (Yd.row b ⟨0, nd0, .nil, ⟨a1, i, c1⟩, ⟨a2, i, c2⟩⟩) ∧ SVar W zo [.bool true] ∧
    ORow w0 b c r w.heap.size t1 G1 W (.slice a1 i c1) (vers (bs.take i).reverse) ∧ ORow w0 b c r w.heap.size t1 G1 W (.slice a2 i c2) (l.map Prod.fst) ∧ (∀ y, (Value.slice a1 i c1).ownBlock = some y → w.heap.size ≤ y) ∧ (∀ y, (Value.slice a2 i c2).ownBlock = some y → w.heap.size ≤ y) ∧ (∀ y z, (Value.slice a1 i c1).ownBlock = some y → (Value.slice a2 i c2).ownBlock = some z → y < z)
/-- Behind lay's call of Do. -/
def LayQ (w0 : World) (b c r : Nat) (G : List (Nat × List Value)) (w : World) (zy zo : Nat) (bs : List Nat) (W : World) : Prop :=
  ∃ G2 m2 hd p1 p2 l y, ButN [b, c, r, zy, zo] w.heap.size w W ∧ HasE w0 b c r G2 W m2 ∧ Grow w G G2 ∧ YM m2 y.H hd p1 p2 l ∧ l.map (fun x => x.2.1.ver) = vers bs.reverse ∧ l.length = bs.length ∧ SVar W zy (Yd.row b y) ∧ SVar W zo [.bool true] ∧ y.n = ⟨⟨#[107]⟩, hd, [p1, p2]⟩ ∧ y.pn.In G2 (ints [p1, p2]) ∧ y.ch.In G2 (ints (vers bs.reverse)) ∧ y.hs.In G2 (ints (l.map Prod.fst))
/-- A row that was made stands among rows that nobody changes from now on. -/
theorem ORow.frz {pb : Nat} {Z : List Nat} {t1 : Value} {G1 : List (Nat × List Value)} {W : World} {m1 : M} {s1 : Pt} {a : Option Addr} {cap : Nat} {l : List Int} (hrow : ORow w0 b c r pb t1 G1 W (.slice a l.length cap) l) (hD : Dgo w0 b c r pb Z w t1 G G1 W m1 s1) (hge : ∀ y, (Value.slice a l.length cap).ownBlock = some y → w.heap.size ≤ y) (hl : l.length ≤ 1000000) :
    ∃ G2, Dgo w0 b c r pb Z w t1 G G2 W m1 s1 ∧ (⟨a, l.length, cap⟩ : Sl).In G2 (ints l) ∧ (∀ x, x ∈ G1 → x ∈ G2) ∧ ∀ z, Loc w0 b c r pb t1 G1 W z → (Value.slice a l.length cap).ownBlock ≠ some z → Loc w0 b c r pb t1 G2 W z := by
  rcases id hrow.own.2 with ⟨e, e2⟩ | ⟨g, c2, cur, e, q1, q2, q3, -⟩
  · have hn : l = [] := List.length_eq_zero_iff.1 e2
    subst hn
    cases e
    exact ⟨G1, hD, Sl.In.nil, fun x hx => hx, fun z hz _ => hz⟩
  · cases e
    have hg := hrow.loc g rfl
    have hr : Rw W g (ints l) := ⟨hg.lt, fun j u hj => by
      have := World.ownsRow.cells hrow.own (g := g) rfl j u hj
      rwa [add_off, Nat.zero_add] at this⟩
    refine ⟨(g, ints l) :: G1, ⟨hD.sys.freeze hg hr, hD.but, hD.own, hD.pb, hD.inz, ⟨fun x hx => List.mem_cons_of_mem _ (hD.gro.1 x hx), fun x hx => ?_⟩⟩, ⟨by rw [ints_length], q3, by rw [ints_length]; exact hl, .inr ⟨g, 0, ints l, rfl, List.mem_cons_self, fun i x hx => by rw [Nat.zero_add]; exact hx⟩⟩, fun x hx => List.mem_cons_of_mem _ hx, fun z hz hne => hz.freeze fun e => hne (by rw [← e]; rfl)⟩
    rcases List.mem_cons.1 hx with e | e
    · subst e
      exact .inr (hge g rfl)
    · exact hD.gro.2 x e
set_option maxHeartbeats 2000000 in
theorem lay1_any (h : HasE w0 b c r G w (M.new 200)) (hT : TabAt w0) {a : Option Addr} {cap : Nat} (bs : List Nat) (hn : bs.length ≤ 90) (hb : Bys w [b, c, r, zy, zo] a bs) (cb : w.cell? ⟨zb, 0, none⟩ = some (.slice a bs.length cap)) (hzb : zb < w.heap.size ∧ zb ∉ [b, c, r, zy, zo])
    (hy : SVar w zy (yd0.row b)) (ly : LocM w0 b c r G w zy) (ho : SVar w zo [.bool true]) (lo : LocM w0 b c r G w zo) (hne : zy ≠ zo) :
    Calls Tryd.prog 46 (#[.pointer (some ⟨w.heap.size, 0, none⟩)] ++ #[.pointer (some ⟨zb, 0, none⟩), .pointer (some ⟨zo, 0, none⟩), .pointer (some ⟨zy, 0, none⟩)]) (w.alloc (portObj b)) fun e w' => ∃ u, e = .returned u ∧ u = .nilIface ∧ LayQ w0 b c r G w zy zo bs w' := by
  have hD := Dgo.start h (Z := [b, c, r, zy, zo]) ⟨by simp, by simp, by simp⟩
  have hbp := (Below.refl w.heap.size w).alloc (Nat.le_refl _) (portObj b)
  have HH : Hid (LyX w0 b c r G w zy zo bs 0 0 (w.alloc (portObj b))) := ⟨_, G, _, [], none, 0, none, 0, hD, YC.start, rfl, by simp [vers], hy.later hbp, ho.later hbp, ORow.nil _, ORow.nil _, fun y e => (by cases e), fun y e => (by cases e), fun y z e => (by cases e)⟩
  have HL := Lib.hid (⟨ly, lo⟩ : _ ∧ _)
  have HB := Lib.hid hb
  have HC := Lib.hid (fun (t1 : Value) (G1 : List (Nat × List Value)) (w1 : World) (m1 : M) (s1 : Pt) (hd : Dgo w0 b c r w.heap.size [b, c, r, zy, zo] w t1 G G1 w1 m1 s1) => (LocM.cellD hzb.2 hzb.1 hd cb))
  have HT := Lib.hid hT
  obtain ⟨n, hnn⟩ : ∃ n, n = bs.length := ⟨_, rfl⟩
  have HN := Lib.hid hnn
  rw [← hnn] at hn HC
  have hn2 : (n : Int) ≤ 90 := by omega
  show Calls Tryd.prog 46 #[.pointer (some ⟨w.heap.size, 0, none⟩), .pointer (some ⟨zb, 0, none⟩), .pointer (some ⟨zo, 0, none⟩), .pointer (some ⟨zy, 0, none⟩)] (w.alloc (portObj b)) _
  clear h hT hb cb hzb hy ly ho lo hD hbp hnn
  generalize w.alloc (portObj b) = wp at *
  go_enter Tryd.func46, Tryd.ntmps46
  go_wp2_with fail
  go_loopw [6, 7, 8, 9] (fun vv hv ev iv wr => ∃ (i : Nat) (v h : Int), vv = .int .i64 v ∧ hv = .int .i64 h ∧ ev = .int .i64 0 ∧ iv = .int .i64 (i : Int) ∧ i ≤ n ∧ v = (vers (bs.take i).reverse).headD 0 ∧ Hid (LyX w0 b c r G w zy zo bs i h wr)) (fun _ _ _ iv _ => n - (intOf iv).toNat)
  case atStart => exact ⟨0, 0, 0, rfl, rfl, rfl, rfl, Nat.zero_le _, rfl, HH⟩
  case round =>
    obtain ⟨i, v, h, rfl, rfl, rfl, rfl, hi, hv, hX⟩ := hrel
    obtain ⟨t1, G1, m1, l, a1, c1', a2, c2, hD, hyc, hll, hlv, sy, so, r1, r2, o1, o2, o3⟩ := hX.out
    have cbx := HC.out _ _ _ _ _ hD
    have hv0 := vers_le (bs.take i).reverse (fun x hx => HB.out.le x (List.mem_of_mem_take (List.mem_reverse.1 hx)))
    rw [← hv, List.length_reverse, List.length_take] at hv0
    have hv1 : 0 ≤ v := hv0.1
    have hv2 : v ≤ 24000 := by have := hv0.2; omega
    have HV := Lib.hid hv
    have ly := HL.out.1.loc hD
    have lo := HL.out.2.loc hD
    have cnt1 := hyc.cnt
    clear hv hv0 hX
    by_cases hin : i < n
    · have hin2 : (i : Int) < (n : Int) := by omega
      obtain ⟨x, hx⟩ : ∃ x, bs[i]? = some x := ⟨_, List.getElem?_eq_getElem (by rw [← HN.out]; exact hin)⟩
      have hx255 : x ≤ 255 := HB.out.le x (List.mem_of_getElem? hx)
      have hx1 : (x : Int) ≤ 255 := by omega
      have hx0 : 0 ≤ (x : Int) := by omega
      have hrow : ∃ g o, a = some ⟨g, o, none⟩ ∧ wr.cell? ⟨g, o + i, none⟩ = some (.int .u8 (x : Int)) := by
        rcases HB.out.row with e | ⟨g, o, e, hg, hgz, hr⟩
        · rw [e] at hx; simp at hx
        · exact ⟨g, o, e, LocM.cellD hgz hg hD (hr i _ (by simp [u8s, hx]))⟩
      obtain ⟨g, o, ea, cby⟩ := hrow
      obtain ⟨h', p, m2, ego, hyc2⟩ := hyc.step (by omega) (v + 1 + x)
      have HG := Lib.hid ego
      have HY := Lib.hid hyc2
      have HD := Lib.hid hD
      have HS := Lib.hid (⟨sy, so, r1, r2, ly, lo⟩ : _ ∧ _ ∧ _ ∧ _ ∧ _ ∧ _)
      have HLL := Lib.hid hlv
      have ho1 := Lib.hid o1
      have ho2 := Lib.hid o2
      subst ea
      clear hD ego hyc2 sy so r1 r2 ly lo hyc hlv o1 o2 o3
      go_wp2_with fail
      refine (Tomb_any _ _).mono ?_
      rintro e w1 ⟨rfl, hb1⟩
      obtain ⟨sy, so, r1, r2, ly, lo⟩ := HS.out
      have hD1 := HD.out.later hb1
      have hl := Lay_E hD1.sys HT.out (by omega) (tomb (v + 1 + x)) .nil tomb_in h
      have HS1 := Lib.hid (⟨sy.later hb1, so.later hb1, r1.later hb1, r2.later hb1, ly.same hb1.size, lo.same hb1.size⟩ : _ ∧ _ ∧ _ ∧ _ ∧ _ ∧ _)
      have HD1 := Lib.hid hD1
      unfold Rv.v at hl ⊢
      simp only [tomb, rv0, Pl.nil, Sl.nil] at hl ⊢
      clear hD1 sy so r1 r2 ly lo hb1 cby cbx
      go_wp2_with fail
      refine hl.mono ?_
      rintro e w2 hE
      obtain ⟨t2, G2, u, rfl, hu, ha⟩ := hE.done (ptDo_quiet w b)
      have ego := HG.out
      simp only [tomb, rv0] at ego
      rw [ego] at hu ha
      replace hu : u = .tuple #[.int .i64 h', .int .i64 0] := hu
      subst hu
      simp only at ha
      obtain ⟨sy, so, r1, r2, ly, lo⟩ := HS1.out
      have hD2 := HD1.out.aft ha
      obtain ⟨sy2, ly2⟩ := ha.svar ly sy
      obtain ⟨so2, lo2⟩ := ha.svar lo so
      have q1 := r1.aft ha
      have q2 := r2.aft ha
      have b3 : But zo w2 (w2.setCell ⟨zo, 0, none⟩ (.bool true)) := (But.refl _ _).set _ _
      have hlo := HL.out.2.lt
      have hly := HL.out.1.lt
      have hD3 := hD2.aside b3 lo2 (.inl (by simp))
      have sy3 := sy2.same b3.size (b3.block _ sy2.lt hne)
      have so3 : SVar (w2.setCell ⟨zo, 0, none⟩ (.bool true)) zo [.bool true] := so2.set (i := 0) (by simp) _
      have ly3 := ly2.same b3.size
      have lo3 := lo2.same b3.size
      have q13 := q1.same (t1 := t2) (G1 := G2) fun y e => ⟨(q1.loc y e).same b3.size, b3.block y (q1.loc y e).lt (by have := ho1.out y e; omega)⟩
      have q23 := q2.same (t1 := t2) (G1 := G2) fun y e => ⟨(q2.loc y e).same b3.size, b3.block y (q2.loc y e).lt (by have := ho2.out y e; omega)⟩
      have hlen1 : (vers (bs.take i).reverse).length = i := by rw [vers_length, List.length_reverse, List.length_take, ← HN.out]; omega
      have hlen2 : (l.map Prod.fst).length = i := by rw [List.length_map]; exact hll
      have co := so2.cell (i := 0) rfl
      have fo := so2.fz
      have hpr := fun ty => prep hD3.sys (v + 1 + x) (a := a1) (cap := c1') (by rw [hlen1]; exact q13) (by omega) ty
      have hzz : (w2.setCell ⟨zo, 0, none⟩ (.bool true)).heap.size = w2.heap.size := by simp
      rw [hlen1, hzz] at hpr
      have hsz : zy < w2.heap.size := ly2.lt
      have HPr := Lib.hid hpr
      have c5 := sy2.cell (i := 5) rfl
      have c5s := sy3.cell (i := 5) rfl
      have hsz3 : zy < (w2.setCell ⟨zo, 0, none⟩ (.bool true)).heap.size := ly3.lt
      have HS3 := Lib.hid (⟨sy3, so3, q23, ly3, lo3, hlen1, hlen2⟩ : _ ∧ _ ∧ _ ∧ _ ∧ _ ∧ _ ∧ _)
      have HD3 := Lib.hid hD3
      clear hl hE ha ego sy so r1 r2 ly lo hD2 sy2 ly2 so2 lo2 q1 q2 b3 hD3 sy3 so3 ly3 lo3 q13 q23 hpr hlen1 hlen2 hlo hly hzz hsz3
      go_wp2_with (first | ((with_reducible refine append_run2 ?_ (.tmp 40) (.tmp 42) 25 ?_ ?_ ?_ HPr.out ?_); exact rfl; exact rfl; exact rfl; exact rfl) | fail)
      rintro u w4 ⟨⟨a5, c5', rfl⟩, r1, hb4, n1⟩
      obtain ⟨sy3, so3, q23, ly3, lo3, hlen1, hlen2⟩ := HS3.out
      have hD4 := HD3.out.later hb4
      have sy4 := sy3.later hb4
      have ly4 := ly3.same hb4.size
      have hll1 : ((v + 1 + (x : Int)) :: vers (bs.take i).reverse).length = i + 1 := by rw [List.length_cons, hlen1]
      rw [hll1] at r1 n1 ⊢
      clear c5
      have c5 := sy4.cell (i := 5) rfl
      have f5 := sy4.fz
      have c6 := sy4.cell (i := 6) rfl
      have b5 : But zy w4 (w4.setCell ⟨zy, 5, none⟩ (.slice a5 (i + 1) c5')) := (But.refl _ _).set _ _
      have hlo := HL.out.2.lt
      have hly := HL.out.1.lt
      have hD5 := hD4.aside b5 ly4 (.inl (by simp))
      have sy5 : SVar (w4.setCell ⟨zy, 5, none⟩ (.slice a5 (i + 1) c5')) zy (Yd.row b ⟨0, nd0, .nil, ⟨a5, i + 1, c5'⟩, ⟨a2, i, c2⟩⟩) := sy4.set (i := 5) (by simp [Yd.row]) _
      have hw3 := HD3.out.but.size
      have q15 := r1.same (t1 := t2) (G1 := G2) (w1 := w4.setCell ⟨zy, 5, none⟩ (.slice a5 (i + 1) c5')) fun y e => ⟨(r1.loc y e).same b5.size, b5.block y (r1.loc y e).lt (by have := n1 y e; omega)⟩
      have q24 := q23.later hb4
      have q25 := q24.same (t1 := t2) (G1 := G2) (w1 := w4.setCell ⟨zy, 5, none⟩ (.slice a5 (i + 1) c5')) fun y e => ⟨(q24.loc y e).same b5.size, b5.block y (q24.loc y e).lt (by have := ho2.out y e; omega)⟩
      have so5 : SVar (w4.setCell ⟨zy, 5, none⟩ (.slice a5 (i + 1) c5')) zo [.bool true] := (so3.later hb4).same b5.size (b5.block _ (so3.later hb4).lt hne.symm)
      have ly5 := ly4.same b5.size
      have hpr := fun ty => prep hD5.sys h' (a := a2) (cap := c2) (l := l.map Prod.fst) (by rw [hlen2]; exact q25) (by omega) ty
      have hzz : (w4.setCell ⟨zy, 5, none⟩ (.slice a5 (i + 1) c5')).heap.size = w4.heap.size := by simp
      rw [hlen2, hzz] at hpr
      have HPr2 := Lib.hid hpr
      have hn1 := Lib.hid n1
      have hsz4 : zy < w4.heap.size := ly4.lt
      have hll2 : (h' :: l.map Prod.fst).length = i + 1 := by rw [List.length_cons, hlen2]
      have HS5 := Lib.hid (⟨sy5, so5, q15, ly5, hll2, hw3⟩ : _ ∧ _ ∧ _ ∧ _ ∧ _ ∧ _)
      have HD5 := Lib.hid hD5
      clear sy3 so3 q23 ly3 lo3 hlen1 hlen2 hD4 sy4 ly4 hll1 r1 hb4 n1 b5 hlo hly hD5 sy5 hw3 q15 q24 q25 so5 ly5 hpr hzz hll2 hsz co fo c5s
      go_wp2_with (first | ((with_reducible refine append_run2 ?_ (.tmp 46) (.tmp 48) 25 ?_ ?_ ?_ HPr2.out ?_); exact rfl; exact rfl; exact rfl; exact rfl) | fail)
      rintro u w6 ⟨⟨a6, c6', rfl⟩, r2, hb6, n2⟩
      obtain ⟨sy5, so5, q15, ly5, hll2, hw3⟩ := HS5.out
      have hD6 := HD5.out.later hb6
      have sy6 := sy5.later hb6
      have ly6 := ly5.same hb6.size
      rw [hll2] at r2 n2 ⊢
      clear c5 c6 f5
      have c6 := sy6.cell (i := 6) rfl
      have f6 := sy6.fz
      have b7 : But zy w6 (w6.setCell ⟨zy, 6, none⟩ (.slice a6 (i + 1) c6')) := (But.refl _ _).set _ _
      have hlo := HL.out.2.lt
      have hly := HL.out.1.lt
      have hD7 := hD6.aside b7 ly6 (.inl (by simp))
      have hw5 := HD5.out.but.size
      have hn1' := hn1.out
      have sy7 : SVar (w6.setCell ⟨zy, 6, none⟩ (.slice a6 (i + 1) c6')) zy (Yd.row b ⟨0, nd0, .nil, ⟨a5, i + 1, c5'⟩, ⟨a6, i + 1, c6'⟩⟩) := sy6.set (i := 6) (by simp [Yd.row]) _
      have q16 := q15.later hb6
      have q17 := q16.same (t1 := t2) (G1 := G2) (w1 := w6.setCell ⟨zy, 6, none⟩ (.slice a6 (i + 1) c6')) fun y e => ⟨(q16.loc y e).same b7.size, b7.block y (q16.loc y e).lt (by have := hn1' y e; omega)⟩
      have q27 := r2.same (t1 := t2) (G1 := G2) (w1 := w6.setCell ⟨zy, 6, none⟩ (.slice a6 (i + 1) c6')) fun y e => ⟨(r2.loc y e).same b7.size, b7.block y (r2.loc y e).lt (by have := n2 y e; omega)⟩
      have so7 : SVar (w6.setCell ⟨zy, 6, none⟩ (.slice a6 (i + 1) c6')) zo [.bool true] := (so5.later hb6).same b7.size (b7.block _ (so5.later hb6).lt hne.symm)
      have hstep : (bs.take (i + 1)).reverse = x :: (bs.take i).reverse := by rw [List.take_add_one, hx]; simp
      have hvs : vers (bs.take (i + 1)).reverse = (v + 1 + (x : Int)) :: vers (bs.take i).reverse := by rw [hstep, vers, ← HV.out]
      have HX2 : Hid (LyX w0 b c r G w zy zo bs (i + 1) h' (w6.setCell ⟨zy, 6, none⟩ (.slice a6 (i + 1) c6'))) := by
        refine ⟨t2, G2, m2, _, a5, c5', a6, c6', hD7, HY.out, by rw [List.length_cons, hll], by rw [hvs, List.map_cons, HLL.out]; rfl, sy7, so7, by rw [hvs]; exact q17, q27, fun y e => by have := hn1' y e; omega, fun y e => by have := n2 y e; omega, fun y z e1 e2 => by have := (q15.loc y e1).lt; have := n2 z e2; omega⟩
      have HV2 : Hid (v + 1 + (x : Int) = (vers (bs.take (i + 1)).reverse).headD 0) := by
        show _ = _
        rw [hvs]; rfl
      clear sy5 so5 q15 ly5 hll2 hw3 hD6 sy6 ly6 r2 hb6 n2 b7 hlo hly hD7 hw5 hn1' sy7 q16 q17 q27 so7 hstep hvs
      go_wp2_with fail
      exact ⟨⟨i + 1, _, _, rfl, rfl, rfl, rfl, by omega, HV2.out, HX2⟩, by simp only [intOf]; omega⟩
    · have hin2 : ¬ (i : Int) < (n : Int) := by omega
      have hi2 : i = bs.length := by rw [← HN.out]; omega
      have htk : bs.take i = bs := by rw [hi2]; exact List.take_length
      rw [htk] at hlv r1
      have hvl : (vers bs.reverse).length = i := by rw [vers_length, List.length_reverse]; exact hi2.symm
      have hfl : (l.map Prod.fst).length = i := by rw [List.length_map]; exact hll
      rw [← hvl] at r1 o1
      obtain ⟨G3, hD3, sl1, gr3, lc3⟩ := r1.frz hD o1 (by omega)
      rw [hvl] at sl1 o1 lc3
      have r23 : ORow w0 b c r w.heap.size t1 G3 wr (.slice a2 i c2) (l.map Prod.fst) := r2.same fun y e => ⟨lc3 y (r2.loc y e) (fun e2 => Nat.lt_irrefl _ (o3 y y e2 e)), rfl⟩
      rw [← hfl] at r23 o2
      obtain ⟨G4, hD4, sl2, gr4, lc4⟩ := r23.frz hD3 o2 (by omega)
      rw [hfl] at sl2
      have ly4 := HL.out.1.loc hD4
      have lo4 := HL.out.2.loc hD4
      obtain ⟨H, hd, p1, p2, m2, g1, g2, hym⟩ := hyc.done (by omega)
      obtain ⟨wa, hwa⟩ : ∃ W, W = wr.alloc (.cells #[.int .i64 5, .int .i64 6] 3) := ⟨_, rfl⟩
      have ba : Below wr.heap.size wr wa := by rw [hwa]; exact (Below.refl _ wr).alloc (Nat.le_refl _) _
      have hDa := hD4.later ba
      have hsr : Loc w0 b c r w.heap.size t1 G4 wa wr.heap.size ∧ wa.rangeAt wr.heap.size 0 (ints [5, 6]) := by
        rw [hwa]
        exact ⟨hD4.sys.fresh _, (snew wr (ints [5, 6]) 3).at_⟩
      have hl := Make_E hDa.sys HT.out (by omega) ⟨#[107]⟩ h ⟨wr.heap.size, 0, none⟩ 2 [5, 6] (by simp) (fun j u hj => by rw [add_off]; exact hsr.2 j u hj) (fun _ => hsr.1.lt)
      have HWa := Lib.hid hwa.symm
      have HDa := Lib.hid hDa
      have HG := Lib.hid (⟨g1, g2, hym⟩ : _ ∧ _ ∧ _)
      have HS := Lib.hid (⟨sy.later ba, so.later ba, ly4.same ba.size, lo4.same ba.size⟩ : _ ∧ _ ∧ _ ∧ _)
      have HLs := Lib.hid (⟨hlv, by rw [hll]; exact hi2, sl1.more gr4, sl2⟩ : _ ∧ l.length = bs.length ∧ _ ∧ _)
      clear hD hyc hlv sy so r1 r2 o1 o2 o3 ly lo hvl hfl hD3 sl1 gr3 lc3 r23 hD4 sl2 gr4 lc4 ly4 lo4 g1 g2 hym hwa ba hDa hsr htk
      go_wp2_with (first | rw [HWa.out] | fail)
      refine hl.mono ?_
      rintro e w1 hE
      obtain ⟨t2, G5, u, rfl, hu, ha⟩ := hE.done (ptDo_quiet w b)
      rw [HG.out.1] at hu ha
      replace hu : u = .tuple #[.int .i64 H, .int .i64 0] := hu
      subst hu
      simp only at ha
      obtain ⟨sy, so, ly, lo⟩ := HS.out
      have hD1 := HDa.out.aft ha
      obtain ⟨sy1, ly1⟩ := ha.svar ly sy
      obtain ⟨so1, lo1⟩ := ha.svar lo so
      have b2 : But zy w1 (w1.setCell ⟨zy, 1, none⟩ (.int .i64 H)) := (But.refl _ _).set _ _
      have c1 := sy1.cell (i := 1) rfl
      have f1 := sy1.fz
      have hD2 := hD1.aside b2 ly1 (.inl (by simp))
      have sy2 : SVar (w1.setCell ⟨zy, 1, none⟩ (.int .i64 H)) zy (Yd.row b ⟨H, nd0, .nil, ⟨a1, i, c1'⟩, ⟨a2, i, c2⟩⟩) := sy1.set (i := 1) (by simp [Yd.row]) _
      have so2 := so1.same b2.size (b2.block _ so1.lt hne.symm)
      have hcnt : m2.count + 1 = 2 * (l.length : Int) + 5 := HG.out.2.2.cnt
      have hl2 := Load_E hD2.sys (by omega) H
      have gr1 := ha.gro
      have HD2 := Lib.hid hD2
      have HS2 := Lib.hid (⟨sy2, so2, ly1.same b2.size, lo1.same b2.size, gr1⟩ : _ ∧ _ ∧ _ ∧ _ ∧ _)
      clear hl hE ha sy so ly lo hD1 sy1 ly1 so1 lo1 b2 hD2 sy2 so2 gr1
      go_wp2_with fail
      refine hl2.mono ?_
      rintro e w3 hE
      obtain ⟨t3, G6, u, rfl, hu, ha⟩ := hE.done (ptDo_quiet w b)
      rw [HG.out.2.1] at hu ha
      obtain ⟨q, hq, rfl⟩ := hu
      simp only at ha hq
      obtain ⟨sy, so, ly, lo, gr1⟩ := HS2.out
      have hD3 := HD2.out.aft ha
      obtain ⟨sy3, ly3⟩ := ha.svar ly sy
      obtain ⟨so3, lo3⟩ := ha.svar lo so
      obtain ⟨w4, hw4⟩ : ∃ W, W = w3.alloc (.cells #[.string ⟨#[107]⟩, .int .i64 hd, .slice q.s0.a q.s0.n q.s0.cap] 27) := ⟨_, rfl⟩
      have b4 : Below w3.heap.size w3 w4 := by rw [hw4]; exact (Below.refl _ w3).alloc (Nat.le_refl _) _
      have sn : SVar w4 w3.heap.size [.string ⟨#[107]⟩, .int .i64 hd, .slice q.s0.a q.s0.n q.s0.cap] := by rw [hw4]; exact snew w3 [.string ⟨#[107]⟩, .int .i64 hd, .slice q.s0.a q.s0.n q.s0.cap] 27
      have hld := sn.load sh27
      have sy4 := sy3.later b4
      have hst := run_storeAt_mid (P := Tryd.prog) w4 zy 2 27 #[.string ⟨#[107]⟩, .int .i64 hd, .slice q.s0.a q.s0.n q.s0.cap] (by
        intro j hj
        have := sy4.there (2 + j) (by simp only [Yd.row, List.length_cons, List.length_nil] at hj ⊢; simp at hj; omega)
        rwa [Nat.zero_add] at this) (by simpa using sh27.size) (by simp [Value.oneCell'])
      obtain ⟨w5, hw5⟩ : ∃ W, W = w4.setCells zy 2 [.string ⟨#[107]⟩, .int .i64 hd, .slice q.s0.a q.s0.n q.s0.cap] := ⟨_, rfl⟩
      have b5 : But zy w4 w5 := by rw [hw5]; exact sput_but w4 zy _ 2
      have sy5 : SVar w5 zy (Yd.row b ⟨H, ⟨⟨#[107]⟩, hd, [p1, p2]⟩, q.s0, ⟨a1, i, c1'⟩, ⟨a2, i, c2⟩⟩) := by
        rw [hw5]
        exact ((sy4.set (i := 2) (by simp [Yd.row]) (.string ⟨#[107]⟩)).set (i := 3) (by simp [Yd.row]) (.int .i64 hd)).set (i := 4) (by simp [Yd.row]) (.slice q.s0.a q.s0.n q.s0.cap)
      simp only at hst
      rw [← hw5] at hst
      have so4 := so3.later b4
      have so5 := so4.same b5.size (b5.block _ so4.lt hne.symm)
      have hD5 := (hD3.later b4).aside b5 (ly3.same b4.size) (.inl (by simp))
      have lo5 := (lo3.same b4.size).same b5.size
      have b6 : But zo w5 (w5.setCell ⟨zo, 0, none⟩ (.bool true)) := (But.refl _ _).set _ _
      have hD6 := hD5.aside b6 lo5 (.inl (by simp))
      have sy6 := sy5.same b6.size (b6.block _ sy5.lt hne)
      have so6 : SVar (w5.setCell ⟨zo, 0, none⟩ (.bool true)) zo [.bool true] := so5.set (i := 0) (by simp) _
      have g2 := ha.gro
      have hgr : ∀ x, x ∈ G4 → x ∈ G6 := fun x hx => g2.1 x (gr1.1 x hx)
      have HQ : Hid (LayQ w0 b c r G w zy zo bs (w5.setCell ⟨zo, 0, none⟩ (.bool true))) := by
        obtain ⟨e1, e2, e3, e4⟩ := HLs.out
        exact ⟨G6, _, hd, p1, p2, l, _, hD6.but, hD6.sys.mem, hD6.gro, HG.out.2.2, e1, e2, sy6, so6, rfl, hq, e3.more hgr, e4.more hgr⟩
      have co := so5.cell (i := 0) rfl
      have fo := so5.fz
      have HW4 := Lib.hid hw4.symm
      unfold Nd.v
      clear hl2 hE ha sy so ly lo hD3 sy3 ly3 so3 lo3 hw4 b4 sn sy4 hw5 b5 sy5 so4 so5 hD5 lo5 b6 hD6 sy6 so6 g2 hgr hq gr1 c1 f1
      go_wp2_with (first | rw [HW4.out] | ((with_reducible refine load_run ?_ (.tmp 10) 27 ?_ ?_ hld ?_); exact rfl; exact rfl; exact rfl) | ((with_reducible refine store_run ?_ (.tmp 67) (.tmp 66) 27 ?_ ?_ ?_ hst ?_); exact rfl; exact rfl; exact rfl; exact rfl) | fail)
      go_ret
      exact ⟨_, rfl, rfl, HQ.out⟩
end
end Go.Proofs.YtbcpdkmbbgcfbaaDoor
