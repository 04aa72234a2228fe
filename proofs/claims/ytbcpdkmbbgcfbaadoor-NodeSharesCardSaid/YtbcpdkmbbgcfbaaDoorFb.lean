/- What the law's left comes to, in Do: the versions of a chain, as Newest, Word and Take tell them. Condition: the library's table stands. -/
import Derived.Test.YtbcpdkmbbgcfbaaDoorCx
namespace Go.Proofs.YtbcpdkmbbgcfbaaDoor
open Go.RowKit Go.Op
set_option maxRecDepth 100000

theorem Ch.drop {m : M} : ∀ {l : List (Int × Rv × Int)} {h : Int} (i : Nat), Ch m h l → ∃ h', Ch m h' (l.drop i) ∧ (i < l.length → ∃ x, l[i]? = some x ∧ h' = x.1 ∧ x.1 ≠ 0 ∧ m.look x.1 = some (.blk (.age x.2.1 x.2.2) .nil)) ∧ (∀ j x, i = j + 1 → l[j]? = some x → m.look x.2.2 = some (.word h')) ∧ (l.length ≤ i → h' = 0)
  | [], h, i, hc => ⟨0, by rw [List.drop_nil]; rfl, fun hi => by simp at hi, fun j x _ hx => by simp at hx, fun _ => rfl⟩
  | x :: l, h, 0, hc => ⟨h, hc, fun _ => ⟨x, rfl, hc.1, by rw [← hc.1]; exact hc.2.1, by rw [← hc.1]; exact hc.2.2.1⟩, fun j y hj => by omega, fun hi => by simp at hi⟩
  | x :: l, h, 1, hc => by
    obtain ⟨e, h0, h1, k, h2, h3⟩ := hc
    obtain ⟨h', q1, q2, q3, q4⟩ := Ch.drop 0 h3
    refine ⟨k, h3, fun hi => ?_, fun j y hj hy => ?_, fun hi => ?_⟩
    · cases l with
      | nil => simp at hi
      | cons z l => exact ⟨z, rfl, h3.1, by rw [← h3.1]; exact h3.2.1, by rw [← h3.1]; exact h3.2.2.1⟩
    · obtain rfl : j = 0 := by omega
      simp at hy
      subst hy
      exact h2
    · cases l with
      | nil => exact h3
      | cons z l => simp at hi
  | x :: l, h, i + 2, hc => by
    obtain ⟨e, h0, h1, k, h2, h3⟩ := hc
    obtain ⟨h', q1, q2, q3, q4⟩ := Ch.drop (i + 1) h3
    refine ⟨h', q1, fun hi => ?_, fun j y hj hy => ?_, fun hi => q4 (by simp only [List.length_cons] at hi; omega)⟩
    · obtain ⟨z, z1, z2⟩ := q2 (by simp only [List.length_cons] at hi; omega)
      exact ⟨z, by simpa using z1, z2⟩
    · cases j with
      | zero => omega
      | succ j => exact q3 j y (by omega) (by simpa using hy)
section
variable {w0 w : World} {b c r : Nat} {G : List (Nat × List Value)} {zy zo zr : Nat} {m : M}
theorem run_extract_at {P : Program} {vs : Array Value} {k : Nat} {u : Value} (hk : vs[k]? = some u) (w : World) : (Instr.extract (.tuple vs) k).run P w = .ok u w := by
  simp [Instr.extract, hk]
def partOf (v : Value) (k : Nat) : Value := match v with
  | .tuple vs => vs.getD k undef
  | _ => undef
/-- A part of a tuple, by its run. -/
theorem extract_run {P : Program} {w : World} {ops : Array Oper} {rest : List Oper} {o : Oper} {a : Act} {Q : Exit → Act → World → Prop} (hgd : o.guard = none) (x : Operand) (k : Nat)
    (ho : o.op = .extract x k) (hx : ∃ vs, a.eval x = .tuple vs ∧ k < vs.size) (h : wpList P ops Q rest (a.put o.dst (partOf (a.eval x) k)) w) : wpList P ops Q (o :: rest) a w := by
  refine wpList_plain hgd fun K hK => ?_
  obtain ⟨vs, e, hk⟩ := hx
  have hk2 : vs[k]? = some (vs.getD k undef) := by simp [hk]
  rw [e] at h
  unfold Oper.wp execOp
  simp only [ho, e, Sem.run_bind, Sem.run_pure, Result.andThen_ok, run_extract_at hk2]
  exact hK _ _ h
@[local go_sem] theorem partOf_tuple (vs : Array Value) (k : Nat) : partOf (.tuple vs) k = vs.getD k undef := rfl
/-- More is appended, in the midst of Do. -/
theorem ORow.appD {pb : Nat} {Z : List Nat} {t1 : Value} {G1 : List (Nat × List Value)} {W : World} {m1 : M} {s1 : Pt} {v : Value} {l : List Int} (h : ORow w0 b c r pb t1 G1 W v l) (hs : Dgo w0 b c r pb Z w t1 G G1 W m1 s1) (hv : ∀ z, v.ownBlock = some z → w.heap.size ≤ z) (ad : Addr) (cap : Nat) (k : List Int) (hk : ∀ j u, (ints k)[j]? = some u → W.cell? (ad.add j) = some u) (hl : l.length + k.length ≤ 1000000) (ty : TypeId) :
    ∃ v' w2, (Builtin.append_ #[25, 25] ty #[v, .slice (some ad) k.length cap]).run Tryd.prog W = .ok v' w2 ∧ Dgo w0 b c r pb Z w t1 G G1 w2 m1 s1 ∧ ORow w0 b c r pb t1 G1 w2 v' (l ++ k) ∧ (∀ z, v'.ownBlock = some z → v.ownBlock = some z ∨ z = W.heap.size) ∧ W.heap.size ≤ w2.heap.size ∧ ∀ z, z < W.heap.size → v.ownBlock ≠ some z → w2.heap[z]? = W.heap[z]? := by
  obtain ⟨i0, hi, hz0, hz1, hz2⟩ := info_parts info3
  obtain ⟨m0, s0, q1, q2⟩ := id hs.sys
  have hB := q1.has.below.size
  obtain ⟨v', w', hr, ho, hg, _, hn⟩ := run_append_own_at W w0.heap.size 25 ty 3 i0 _ 1 8 Tryd.underlying25 hi hz0 hz1 hz2 rfl (by decide) v _ _ h.own ad k.length cap (ints k) (by rw [ints_length]; omega) hk (ints_one k) (by unfold maxLen; omega) (by omega) hB
  have hsz := hg.size
  have hA : Dgo w0 b c r pb Z w t1 G G1 w' m1 s1 := by
    cases hvb : v.ownBlock with
    | none => exact hs.later ⟨hg.os, hg.tape, hg.output, hg.size, fun k hk => hg.block k hk (by rw [hvb]; intro e; cases e)⟩
    | some z => exact hs.aside (z := z) ⟨hg.os, hg.tape, hg.output, hg.size, fun k hk hz => hg.block k hk (by rw [hvb]; intro e; cases e; exact hz rfl)⟩ (h.loc z hvb) (.inr (hv z hvb))
  refine ⟨v', w', hr, hA, ⟨?_, fun g e => ?_⟩, fun z e => ?_, hsz, fun z hz hne => hg.block z hz (fun e => hne e.symm)⟩
  · have := ho
    rw [show ints l ++ ints k = ints (l ++ k) by simp [ints]] at this
    rw [List.length_append]; exact this
  · rcases hn with e2 | e2
    · exact (h.loc g (e2 ▸ e)).same hsz
    · rw [e2] at e
      cases e
      have o := q1.has.at_.own
      have h2 := q1.pt.lt
      have h3 := o.lb
      have h4 := o.lc
      have h5 := o.lr
      exact ⟨(World.ownsRow.lt ho _ e2).2, hB, ⟨by omega, by omega, by omega, by omega⟩, fun e => by
        have := (World.ownsRow.lt q1.pt.own _ e).2
        omega, fun x hx e => by
        have := (q1.rows x.1 x.2 hx).1.lt
        omega⟩
  · rcases hn with e2 | e2
    · exact .inl (e2 ▸ e)
    · rw [e2] at e
      cases e
      exact .inr rfl
/-- Within left's loop. -/
def LfX (w0 : World) (b c r : Nat) (G : List (Nat × List Value)) (w : World) (zo zr : Nat) (m : M) (l : List (Int × Rv × Int)) (i : Nat) (za : Nat) (h : Int) (W : World) : Prop :=
  ∃ (t1 : Value) (G1 : List (Nat × List Value)) (m1 : M) (a1 : Option Addr) (c1 : Nat) (ag : Ag) (q : Pl), Dgo w0 b c r w.heap.size [b, c, r, zo, zr] w t1 G G1 W m1 (ptDo w b) ∧ AskN m m1 (200 + 3 * (i : Int)) ∧ SVar W zo [.bool true] ∧ SVar W zr [.slice a1 i c1] ∧ ORow w0 b c r w.heap.size t1 G1 W (.slice a1 i c1) ((l.take i).map fun x => x.2.1.ver) ∧ (∀ y, (Value.slice a1 i c1).ownBlock = some y → w.heap.size ≤ y ∧ y ≠ za) ∧
    SVar W za (ag.row q) ∧ Loc w0 b c r w.heap.size t1 G1 W za ∧ w.heap.size ≤ za ∧ (∀ x, l[i]? = some x → h = x.1 ∧ ag = ⟨x.2.1, x.2.2⟩) ∧ (l.length ≤ i → h = 0)
/-- Behind left's call of Do. -/
def LfQ (w0 : World) (b c r : Nat) (G : List (Nat × List Value)) (w : World) (zo zr : Nat) (m : M) (l : List (Int × Rv × Int)) (W : World) : Prop :=
  ∃ (G2 : List (Nat × List Value)) (m2 : M) (sl : Sl), ButN [b, c, r, zo, zr] w.heap.size w W ∧ HasE w0 b c r G2 W m2 ∧ Grow w G G2 ∧ AskN m m2 400 ∧ SVar W zo [.bool true] ∧ SVar W zr [.slice sl.a sl.n sl.cap] ∧ sl.In G2 (ints (l.map fun x => x.2.1.ver))
set_option maxHeartbeats 4000000 in
theorem left1_any (h : HasE w0 b c r G w m) (hcm : m.count ≤ 100000) {y : Yd} {hd p1 p2 : Int} {x0 : Int × Rv × Int} {l' : List (Int × Rv × Int)} (hw : m.look hd = some (.word x0.1)) (hc : Ch m x0.1 (x0 :: l')) (hlen : (x0 :: l').length ≤ 40) (hver : ∀ x, x ∈ x0 :: l' → x.2.1.ver ≤ 1000000) (hn : y.n = ⟨⟨#[107]⟩, hd, [p1, p2]⟩)
    {chv : List Int} (hch : y.ch.In G (ints chv)) (hcl : (x0 :: l').length ≤ chv.length) (hcl2 : chv.length ≤ 1000)
    (hy : SVar w zy (Yd.row b y)) (hzy : zy < w.heap.size ∧ zy ∉ [b, c, r, zo, zr]) (ho : ∃ u, SVar w zo [.bool u]) (lo : LocM w0 b c r G w zo) (hr : SVar w zr [.slice none 0 0]) (lr : LocM w0 b c r G w zr) (hne : zo ≠ zr) :
    Calls Tryd.prog 67 (#[.pointer (some ⟨w.heap.size, 0, none⟩)] ++ #[.pointer (some ⟨zy, 0, none⟩), .pointer (some ⟨zo, 0, none⟩), .pointer (some ⟨zr, 0, none⟩)]) (w.alloc (portObj b)) fun e w' => ∃ u, e = .returned u ∧ u = .nilIface ∧ LfQ w0 b c r G w zo zr m (x0 :: l') w' := by
  have hD := Dgo.start h (Z := [b, c, r, zo, zr]) ⟨by simp, by simp, by simp⟩
  have hbp := (Below.refl w.heap.size w).alloc (Nat.le_refl _) (portObj b)
  obtain ⟨m1, e1, a1⟩ := up_go (v := 9223372036854775807) (n := 40) hw hc (by simp) hlen
  have hf : foundS 9223372036854775807 (x0 :: l') = (⟨x0.1, ⟨x0.2.1, x0.2.2⟩⟩, 0) := by
    rw [foundS, if_pos (by have := hver x0 List.mem_cons_self; omega)]
  rw [hf] at e1
  obtain ⟨H, nd, pn, ch, hs⟩ := y
  simp only at *
  subst hn
  have hne1 : ((newestP 40 hd).run (ptDo w b) m).1 ≠ some none := by rw [newestP, (ptDo_quiet w b).run, e1]; simp
  have h1 := Newest_E hD.sys 40 (by omega) ⟨⟨#[107]⟩, hd, [p1, p2]⟩ ⟨pn, .nil, .nil, .nil⟩ hne1
  have hyD : ∀ (t1 : Value) (G1 : List (Nat × List Value)) (w1 : World) (m1 : M) (s1 : Pt) (hd' : Dgo w0 b c r w.heap.size [b, c, r, zo, zr] w t1 G G1 w1 m1 s1), SVar w1 zy (Yd.row b ⟨H, ⟨⟨#[107]⟩, hd, [p1, p2]⟩, pn, ch, hs⟩) := fun _ _ _ _ _ hd' => hy.same hd'.but.size (hd'.but.block zy hzy.1 hzy.2)
  have sy0 := hyD _ _ _ _ _ hD
  have hld := load_mid (z := zy) (o := 2) (ty := 27) (sub := [.string ⟨#[107]⟩, .int .i64 hd, .slice pn.a pn.n pn.cap]) (sy0.mid 2 _ (fun j v hj => by
    match j, hj with
    | 0, hj => exact hj
    | 1, hj => exact hj
    | 2, hj => exact hj
    | j + 3, hj => simp at hj)) sh27
  obtain ⟨u0, so0⟩ := ho
  have HD := Lib.hid hD
  have HY := Lib.hid hyD
  have HE := Lib.hid e1
  have HC := Lib.hid (⟨hc, hlen, hcl, hcl2, hcm, a1⟩ : _ ∧ _ ∧ _ ∧ _ ∧ _ ∧ _)
  have HL := Lib.hid (⟨lo, lr⟩ : _ ∧ _)
  have HS := Lib.hid (⟨so0.later hbp, hr.later hbp⟩ : _ ∧ _)
  have hchn : ch.n = chv.length := by rw [← ints_length]; exact hch.n
  unfold Nd.v at h1
  simp only at h1
  show Calls Tryd.prog 67 #[.pointer (some ⟨w.heap.size, 0, none⟩), .pointer (some ⟨zy, 0, none⟩), .pointer (some ⟨zo, 0, none⟩), .pointer (some ⟨zr, 0, none⟩)] (w.alloc (portObj b)) _
  clear h hw hc hlen hver hch hcl hcl2 hy hzy lo hr lr hD hbp e1 a1 hf hne1 sy0 so0 hyD hcm
  generalize hwp : w.alloc (portObj b) = wp at *
  go_enter Tryd.func67, Tryd.ntmps67
  go_wp2_with (first | ((with_reducible refine load_run ?_ (.tmp 13) 27 ?_ ?_ hld ?_); exact rfl; exact rfl; exact rfl) | fail)
  refine h1.mono ?_
  rintro e w1 hE
  obtain ⟨t1, G1, u, rfl, ⟨x, q, hx, hin, rfl⟩, ha⟩ := hE.done (ptDo_quiet w b)
  unfold newestP at hx ha
  rw [HE.out] at hx ha
  cases hx
  simp only at hin ha ⊢
  have hD1 := HD.out.aft ha
  obtain ⟨so, sr⟩ := HS.out
  have so1 := (ha.svar (HL.out.1.loc HD.out) so).1
  have sr1 := (ha.svar (HL.out.2.loc HD.out) sr).1
  obtain ⟨w2, hw2⟩ : ∃ W, W = w1.alloc (.cells ((⟨x0.2.1, x0.2.2⟩ : Ag).row q).toArray 42) := ⟨_, rfl⟩
  have b2 : Below w1.heap.size w1 w2 := by rw [hw2]; exact (Below.refl _ w1).alloc (Nat.le_refl _) _
  have sa : SVar w2 w1.heap.size ((⟨x0.2.1, x0.2.2⟩ : Ag).row q) := by rw [hw2]; exact snew _ _ _
  have hD2 := hD1.later b2
  have la2 : Loc w0 b c r w.heap.size t1 G1 w2 w1.heap.size := by rw [hw2]; exact hD1.sys.fresh _
  have so2 := so1.later b2
  have sr2 := sr1.later b2
  have b3 : But zo w2 (w2.setCell ⟨zo, 0, none⟩ (.bool true)) := (But.refl _ _).set _ _
  have lo2 := HL.out.1.loc hD2
  have lr2 := HL.out.2.loc hD2
  have hlo := HL.out.1.lt
  have hw1 := hD1.but.size
  have hD3 := hD2.aside b3 lo2 (.inl (by simp))
  have HX0 : Hid (LfX w0 b c r G w zo zr m (x0 :: l') 0 w1.heap.size x0.1 (w2.setCell ⟨zo, 0, none⟩ (.bool true))) := by
    refine ⟨t1, G1, m1, none, 0, ⟨x0.2.1, x0.2.2⟩, q, hD3, (HC.out.2.2.2.2.2).le (by have := HC.out.2.1; omega), so2.set (i := 0) (by simp) _, sr2.same b3.size (b3.block _ sr2.lt hne.symm), ORow.nil _, fun y e => (by cases e), sa.same b3.size (b3.block _ sa.lt (by omega)), la2.same b3.size, hw1, fun x hx => ?_, fun hi => by simp at hi⟩
    simp at hx
    subst hx
    exact ⟨rfl, rfl⟩
  have co := so2.cell (i := 0) rfl
  have fo := so2.fz
  have HW2 := Lib.hid hw2.symm
  unfold Ag.v
  simp only [Ag.row] at HW2
  obtain ⟨za, hza⟩ : ∃ za, za = w1.heap.size := ⟨_, rfl⟩
  have HZa := Lib.hid hza.symm
  rw [← hza] at HX0
  clear h1 hE hin ha hD1 so sr so1 sr1 hw2 b2 sa hD2 la2 so2 sr2 b3 lo2 lr2 hlo hw1 hD3 hld hza
  go_wp2_with (first | rw [HW2.out] | fail)
  rw [HZa.out]
  obtain ⟨n, hnn⟩ : ∃ n, n = (x0 :: l').length := ⟨_, rfl⟩
  have HN := Lib.hid hnn
  clear hnn co fo
  go_loopw [6, 9, 10] (fun hv iv ev wr => ∃ (i : Nat) (h : Int), hv = .int .i64 h ∧ iv = .int .i64 (i : Int) ∧ i ≤ n ∧ Hid (LfX w0 b c r G w zo zr m (x0 :: l') i za h wr)) (fun _ iv _ _ => n + 1 - (intOf iv).toNat)
  case atStart => exact ⟨0, x0.1, rfl, rfl, Nat.zero_le _, HX0⟩
  case round =>
    obtain ⟨i, h, rfl, rfl, hi, hX⟩ := hrel
    obtain ⟨t1, G1, m1', a1, c1, ag, q1, hD, hak, so, sr, r1, o1, sa, la, hwa, hix, hin0⟩ := hX.out
    have co := so.cell (i := 0) rfl
    have cr := sr.cell (i := 0) rfl
    have fr := sr.fz
    have fo := so.fz
    have c5 := (HY.out _ _ _ _ _ hD).cell (i := 5) rfl
    simp only at c5
    rw [hchn] at c5
    obtain ⟨hc, hlen, hcl, hcl2, hcm, -⟩ := HC.out
    rw [← HN.out] at hlen hcl
    have hle : (i : Int) ≤ (chv.length : Int) := by omega
    clear HX0
    by_cases hlt : i < n
    · obtain ⟨x, hx⟩ : ∃ x, (x0 :: l')[i]? = some x := ⟨_, List.getElem?_eq_getElem (by rw [← HN.out]; exact hlt)⟩
      obtain ⟨rfl, rfl⟩ := hix x hx
      obtain ⟨h2, -, hn2, hw2, hz2⟩ := hc.drop (i + 1)
      have hword := (hak.look x.2.2).trans (hw2 i x rfl hx)
      have hxz : ¬ x.1 = 0 := hc.nz x (List.mem_of_getElem? hx)
      obtain ⟨wa, hwa2⟩ : ∃ W, W = wr.alloc (.cells #[.int .i64 x.2.1.ver] 3) := ⟨_, rfl⟩
      have ba : Below wr.heap.size wr wa := by rw [hwa2]; exact (Below.refl _ wr).alloc (Nat.le_refl _) _
      have hza2 : wa.heap.size = wr.heap.size + 1 := by rw [hwa2]; simp
      have snw : SVar wa wr.heap.size [.int .i64 x.2.1.ver] := by rw [hwa2]; exact snew wr [.int .i64 x.2.1.ver] 3
      have hDa := hD.later ba
      have htl : (((x0 :: l').take i).map fun x => x.2.1.ver).length = i := by rw [List.length_map, List.length_take, ← HN.out]; omega
      have happ := fun ty => (r1.later ba).appD hDa (fun z hz => (o1 z hz).1) ⟨wr.heap.size, 0, none⟩ 1 [x.2.1.ver] (fun j u hj => by rw [add_off, Nat.zero_add]; exact snw.cell hj) (by rw [htl]; simp; omega) ty
      obtain ⟨L2, hL2⟩ : ∃ L2, L2 = (((x0 :: l').take i).map fun x => x.2.1.ver) ++ [x.2.1.ver] := ⟨_, rfl⟩
      have hl2 : L2.length = i + 1 := by rw [hL2, List.length_append, htl]; rfl
      have hL3 : L2 = ((x0 :: l').take (i + 1)).map fun x => x.2.1.ver := by rw [hL2, List.take_add_one, hx]; simp
      have happ2 : ∀ ty, ∃ u w2, (Builtin.append_ #[25, 25] ty #[.slice a1 i c1, .slice (some ⟨wr.heap.size, 0, none⟩) 1 1]).run Tryd.prog wa = .ok u w2 ∧ Hid (Dgo w0 b c r w.heap.size [b, c, r, zo, zr] w t1 G G1 w2 m1' (ptDo w b) ∧ ORow w0 b c r w.heap.size t1 G1 w2 u L2 ∧ (∀ z, u.ownBlock = some z → (Value.slice a1 i c1).ownBlock = some z ∨ z = wa.heap.size) ∧ wa.heap.size ≤ w2.heap.size ∧ ∀ z, z < wa.heap.size → (Value.slice a1 i c1).ownBlock ≠ some z → w2.heap[z]? = wa.heap[z]?) := fun ty => by
        obtain ⟨u, w2, q1, q2⟩ := happ ty
        rw [← hL2] at q2
        exact ⟨u, w2, q1, q2⟩
      have HAp := Lib.hid happ2
      have hDa_size : Hid (w.heap.size ≤ wa.heap.size) := hDa.but.size
      have HWa := Lib.hid hwa2.symm
      have cag := sa.cell (i := 0) rfl
      simp only at cag
      have hzaw := sa.lt
      have hzrw := sr.lt
      have HS1 := Lib.hid (⟨so.later ba, sr.later ba, sa.later ba, la.same ba.size, hak, o1, hwa, htl, hza2, hzaw⟩ : _ ∧ _ ∧ _ ∧ _ ∧ _ ∧ _ ∧ _ ∧ _ ∧ _ ∧ _)
      have HL2 := Lib.hid (⟨hl2, hL3⟩ : _ ∧ _)
      have HI := Lib.hid (⟨hx, hn2, hz2, hword⟩ : _ ∧ _ ∧ _ ∧ _)
      clear hX hD hak so sr r1 o1 sa la hwa hix hin0 hc hn2 hw2 hz2 hword hx snw hDa htl happ happ2 hl2 hL2 hL3 hwa2 hza2 ba
      go_wp2_with (first | rw [HWa.out] | ((with_reducible refine append_run2 ?_ (.tmp 35) (.tmp 39) 25 ?_ ?_ ?_ HAp.out ?_); exact rfl; exact rfl; exact rfl; exact rfl) | fail)
      rintro u w2 hApp
      obtain ⟨hD2, r2, o2, hs2, hk2⟩ := hApp.out
      obtain ⟨so, sr, sa, la, hak, o1, hwa, htl, hza2, hzaw⟩ := HS1.out
      obtain ⟨a2, c2, rfl, -, -, -⟩ := r2.val
      rw [HL2.out.1] at r2 o2 ⊢
      have hlo := HL.out.1.lt
      have hlr := HL.out.2.lt
      have hkz : ∀ z, z < wa.heap.size → (∀ y, (Value.slice a1 i c1).ownBlock = some y → y ≠ z) → w2.heap[z]? = wa.heap[z]? := fun z hz hy => hk2 z hz (fun e => hy z e rfl)
      have sr2 := sr.same hs2 (hkz zr sr.lt (fun y hy => by have := (o1 y hy).1; omega))
      have so2 := so.same hs2 (hkz zo so.lt (fun y hy => by have := (o1 y hy).1; omega))
      have sa2 := sa.same hs2 (hkz za sa.lt (fun y hy => (o1 y hy).2))
      have la2 := la.same hs2
      have b3 : But zr w2 (w2.setCell ⟨zr, 0, none⟩ (.slice a2 (i + 1) c2)) := (But.refl _ _).set _ _
      have hD3 := hD2.aside b3 (HL.out.2.loc hD2) (.inl (by simp))
      have sr3 : SVar (w2.setCell ⟨zr, 0, none⟩ (.slice a2 (i + 1) c2)) zr [.slice a2 (i + 1) c2] := sr2.set (i := 0) (by simp) _
      have so3 := so2.same b3.size (b3.block _ so2.lt hne)
      have sa3 := sa2.same b3.size (b3.block _ sa2.lt (by omega))
      have la3 := la2.same b3.size
      have o3 : ∀ y, (Value.slice a2 (i + 1) c2).ownBlock = some y → w.heap.size ≤ y ∧ y ≠ za := fun y hy => by
        rcases o2 y hy with e | e
        · exact o1 y e
        · have := hDa_size.out
          omega
      have r3 := r2.same (t1 := t1) (G1 := G1) (w1 := w2.setCell ⟨zr, 0, none⟩ (.slice a2 (i + 1) c2)) fun y e => ⟨(r2.loc y e).same b3.size, b3.block y (r2.loc y e).lt (by have := (o3 y e).1; omega)⟩
      obtain ⟨hx, hn2, hz2, hword⟩ := HI.out
      have hl := eword2 hD3.sys (by have := hak.cnt; have := HC.out.2.2.2.2.1; omega) x.2.2
      have hwg := wordA_go hword
      have crz := sr2.cell (i := 0) rfl
      have frz := sr2.fz
      have cpv := sa3.cell (i := 10) rfl
      have cpv2 := sa2.cell (i := 10) rfl
      simp only at cpv cpv2
      have hak4 : AskN m m1'.ask (200 + 3 * (i : Int) + 1) := hak.trans (AskN.ask m1')
      have HS3 := Lib.hid (⟨so3, sr3, sa3, la3, HL.out.1.loc hD3, HL.out.2.loc hD3, r3⟩ : _ ∧ _ ∧ _ ∧ _ ∧ _ ∧ _ ∧ _)
      have HD3 := Lib.hid hD3
      have HO3 := Lib.hid (⟨o3, hwa, hlo, hlr, hak4⟩ : _ ∧ _ ∧ _ ∧ _ ∧ _)
      have hnezr : ¬ za = zr := by omega
      clear hApp hD2 r2 o2 hs2 hk2 so sr sa la hak o1 hwa htl hza2 hzaw hlo hlr hkz sr2 so2 sa2 la2 b3 hD3 sr3 so3 sa3 la3 o3 r3 hx hn2 hz2 hword co fo cr c5 cag hak4
      go_wp2_with fail
      refine hl.mono ?_
      rintro e w4 hE
      obtain ⟨t2, G2, u, rfl, hu, ha⟩ := hE.done (ptDo_quiet w b)
      rw [hwg] at hu ha
      replace hu : u = .tuple #[.int .i64 h2, .int .i64 0] := hu
      subst hu
      simp only at ha
      obtain ⟨so, sr, sa, la, lo, lr, r3⟩ := HS3.out
      obtain ⟨o3, hwa, hlo, hlr, hak4⟩ := HO3.out
      obtain ⟨hx, hn2, hz2, -⟩ := HI.out
      have hD4 := HD3.out.aft ha
      obtain ⟨so4, lo4⟩ := ha.svar lo so
      obtain ⟨sr4, lr4⟩ := ha.svar lr sr
      obtain ⟨sa4, la4⟩ := ha.svar la sa
      have r4 := r3.aft ha
      have b5 : But zo w4 (w4.setCell ⟨zo, 0, none⟩ (.bool true)) := (But.refl _ _).set _ _
      have hD5 := hD4.aside b5 lo4 (.inl (by simp))
      have so5 : SVar (w4.setCell ⟨zo, 0, none⟩ (.bool true)) zo [.bool true] := so4.set (i := 0) (by simp) _
      have sr5 := sr4.same b5.size (b5.block _ sr4.lt hne.symm)
      have sa5 := sa4.same b5.size (b5.block _ sa4.lt (by omega))
      have la5 := la4.same b5.size
      have r5 := r4.same (t1 := t2) (G1 := G2) (w1 := w4.setCell ⟨zo, 0, none⟩ (.bool true)) fun y e => ⟨(r4.loc y e).same b5.size, b5.block y (r4.loc y e).lt (by have := (o3 y e).1; omega)⟩
      have co := so4.cell (i := 0) rfl
      have fo := so4.fz
      rw [HL2.out.2] at r5
      by_cases h20 : h2 = 0
      · have hX2 : Hid (LfX w0 b c r G w zo zr m (x0 :: l') (i + 1) za h2 (w4.setCell ⟨zo, 0, none⟩ (.bool true))) := by
          refine ⟨t2, G2, m1'.ask, a2, c2, ⟨x.2.1, x.2.2⟩, q1, hD5, hak4.le (by omega), so5, sr5, r5, o3, sa5, la5, hwa, fun y hy => ?_, fun _ => h20⟩
          obtain ⟨z, z1, z2, z3, -⟩ := hn2 (List.getElem?_eq_some_iff.1 hy).1
          exact absurd (z2 ▸ h20) z3
        subst h20
        clear hl hE ha so sr sa la lo lr r3 o3 hwa hlo hlr hak4 hx hn2 hz2 hD4 so4 lo4 sr4 lr4 sa4 la4 r4 b5 hD5 so5 sr5 sa5 la5 r5 hwg crz frz cpv cpv2
        go_wp2_with fail
        exact ⟨⟨i + 1, 0, rfl, rfl, by omega, hX2⟩, by simp only [intOf]; omega⟩
      · have hi1 : i + 1 < (x0 :: l').length := by
          apply Classical.byContradiction
          intro hge
          exact h20 (hz2 (by omega))
        obtain ⟨x', z1, z2, z3, z4⟩ := hn2 hi1
        subst z2
        have htk := Take_E hD5.sys (by have := hak4.cnt; have := HC.out.2.2.2.2.1; have := HN.out; show m1'.ask.count ≤ 900000; omega) x'.1
        have htg := takeA_go ((hak4.look x'.1).trans z4)
        have HS5 := Lib.hid (⟨so5, sr5, sa5, la5, HL.out.1.loc hD5, HL.out.2.loc hD5, r5⟩ : _ ∧ _ ∧ _ ∧ _ ∧ _ ∧ _ ∧ _)
        have HD5 := Lib.hid hD5
        have HI5 := Lib.hid (⟨z1, hi1⟩ : _ ∧ _)
        clear hl hE ha so sr sa la lo lr r3 o3 hwa hlo hlr hak4 hx hn2 hz2 hD4 so4 lo4 sr4 lr4 sa4 la4 r4 b5 hD5 so5 sr5 sa5 la5 r5 hwg crz frz cpv cpv2 z1 z4 hi1
        go_wp2_with fail
        refine htk.mono ?_
        rintro e w6 hE
        obtain ⟨t3, G3, u, rfl, hu, ha⟩ := hE.done (ptDo_quiet w b)
        rw [htg] at hu ha
        obtain ⟨qq, hqin, rfl⟩ := hu
        simp only at ha hqin ⊢
        obtain ⟨so, sr, sa, la, lo, lr, r5⟩ := HS5.out
        obtain ⟨o3, hwa, hlo, hlr, hak4⟩ := HO3.out
        have hD6 := HD5.out.aft ha
        obtain ⟨so6, lo6⟩ := ha.svar lo so
        obtain ⟨sr6, lr6⟩ := ha.svar lr sr
        obtain ⟨sa6, la6⟩ := ha.svar la sa
        have r6 := r5.aft ha
        have b7 : But za w6 (sput w6 za ((⟨x'.2.1, x'.2.2⟩ : Ag).row qq)) := But.sput _ _ _
        have hst := sa6.store (row' := (⟨x'.2.1, x'.2.2⟩ : Ag).row qq) rfl sh42 (Ag.row_one _ _)
        have sa7 := sa6.put (row' := (⟨x'.2.1, x'.2.2⟩ : Ag).row qq) rfl
        have hD7 := hD6.aside b7 la6 (.inr hwa)
        have so7 := so6.same b7.size (b7.block _ so6.lt (by omega))
        have sr7 := sr6.same b7.size (b7.block _ sr6.lt (by omega))
        have la7 := la6.same b7.size
        have lo7 := lo6.same b7.size
        have r7 := r6.same (t1 := t3) (G1 := G3) (w1 := sput w6 za ((⟨x'.2.1, x'.2.2⟩ : Ag).row qq)) fun y e => ⟨(r6.loc y e).same b7.size, b7.block y (r6.loc y e).lt (o3 y e).2⟩
        obtain ⟨w7, hw7⟩ : ∃ w7, w7 = sput w6 za ((⟨x'.2.1, x'.2.2⟩ : Ag).row qq) := ⟨_, rfl⟩
        rw [← hw7] at sa7 hD7 so7 sr7 la7 lo7 r7 b7
        have HW7 : Hid ((((((((((((w6.setCell ⟨za, 0, none⟩ (.int .i64 x'.2.1.ver)).setCell ⟨za, 1, none⟩ (.int .i64 x'.2.1.rate)).setCell ⟨za, 2, none⟩ (.string x'.2.1.lo)).setCell ⟨za, 3, none⟩ (.string x'.2.1.hi)).setCell ⟨za, 4, none⟩ (.bool x'.2.1.all)).setCell ⟨za, 5, none⟩ (.bool x'.2.1.dead)).setCell ⟨za, 6, none⟩ (.slice qq.s0.a qq.s0.n qq.s0.cap)).setCell ⟨za, 7, none⟩ (.slice qq.s1.a qq.s1.n qq.s1.cap)).setCell ⟨za, 8, none⟩ (.slice qq.s2.a qq.s2.n qq.s2.cap)).setCell ⟨za, 9, none⟩ (.slice qq.s3.a qq.s3.n qq.s3.cap)).setCell ⟨za, 10, none⟩ (.int .i64 x'.2.2)) = w7) := hw7.symm
        have g0 := sa6.cell (i := 0) rfl
        have g1 := sa6.cell (i := 1) rfl
        have g2 := sa6.cell (i := 2) rfl
        have g3 := sa6.cell (i := 3) rfl
        have g4 := sa6.cell (i := 4) rfl
        have g5 := sa6.cell (i := 5) rfl
        have g6 := sa6.cell (i := 6) rfl
        have g7 := sa6.cell (i := 7) rfl
        have g8 := sa6.cell (i := 8) rfl
        have g9 := sa6.cell (i := 9) rfl
        have g10 := sa6.cell (i := 10) rfl
        have gf := sa6.fz
        clear hst hw7
        have b8 : But zo w7 (w7.setCell ⟨zo, 0, none⟩ (.bool true)) := (But.refl _ _).set _ _
        have hD8 := hD7.aside b8 lo7 (.inl (by simp))
        have so8 : SVar (w7.setCell ⟨zo, 0, none⟩ (.bool true)) zo [.bool true] := so7.set (i := 0) (by simp) _
        have sr8 := sr7.same b8.size (b8.block _ sr7.lt hne.symm)
        have sa8 := sa7.same b8.size (b8.block _ sa7.lt (by omega))
        have la8 := la7.same b8.size
        have r8 := r7.same (t1 := t3) (G1 := G3) (w1 := w7.setCell ⟨zo, 0, none⟩ (.bool true)) fun y e => ⟨(r7.loc y e).same b8.size, b8.block y (r7.loc y e).lt (by have := (o3 y e).1; omega)⟩
        have hX2 : Hid (LfX w0 b c r G w zo zr m (x0 :: l') (i + 1) za x'.1 (w7.setCell ⟨zo, 0, none⟩ (.bool true))) := by
          obtain ⟨z1, hi1⟩ := HI5.out
          refine ⟨t3, G3, _, a2, c2, ⟨x'.2.1, x'.2.2⟩, qq, hD8, (hak4.trans (AskN.ask _)).le (by push_cast; omega), so8, sr8, r8, o3, sa8, la8, hwa, fun y hy => ?_, fun hge => by omega⟩
          rw [z1] at hy
          cases hy
          exact ⟨rfl, rfl⟩
        clear co fo
        have co := so7.cell (i := 0) rfl
        have fo := so7.fz
        unfold Ag.v
        simp only
        clear htk hE ha htg so sr sa la lo lr r5 o3 hwa hlo hlr hak4 hD6 so6 lo6 sr6 lr6 sa6 la6 r6 b7 sa7 hD7 so7 sr7 la7 lo7 r7 b8 hD8 so8 sr8 sa8 la8 r8 hqin
        simp only at g0 g1 g2 g3 g4 g5 g6 g7 g8 g9 g10
        go_wp2_with (first | rw [HW7.out] | fail)
        exact ⟨⟨i + 1, x'.1, rfl, rfl, by omega, hX2⟩, by simp only [intOf]; omega⟩
    · have hie : i = n := by omega
      have h0 : h = 0 := hin0 (by rw [← HN.out]; omega)
      subst h0
      have htk : (x0 :: l').take i = x0 :: l' := by rw [hie, HN.out]; exact List.take_length
      rw [htk] at r1
      have hvl : (((x0 :: l').map fun x => x.2.1.ver)).length = i := by rw [List.length_map, ← HN.out]; exact hie.symm
      rw [← hvl] at r1
      obtain ⟨G3, hD3, sl1, gr3, lc3⟩ := r1.frz hD (fun y hy => (o1 y (by rw [hvl] at hy; exact hy)).1) (by rw [hvl]; omega)
      have HQ : Hid (LfQ w0 b c r G w zo zr m (x0 :: l') wr) := ⟨G3, m1', _, hD3.but, hD3.sys.mem, hD3.gro, hak.le (by omega), so, by rw [hvl]; exact sr, sl1⟩
      clear hX hD hak so sr r1 o1 sa la hwa hix hin0 hc htk hvl hD3 sl1 gr3 lc3
      go_wp2_with fail
      go_ret
      exact ⟨_, rfl, rfl, HQ.out⟩
end
end Go.Proofs.YtbcpdkmbbgcfbaaDoor
/- What the law's left comes to. Condition: the library's table stands. -/
namespace Go.Proofs.YtbcpdkmbbgcfbaaDoor
open Go.RowKit Go.Op
set_option maxRecDepth 100000

theorem ent_67 (xs : Array Value) (w : World) : (callFunc 67 xs).run Tryd.prog w = .ok (.enter 67 xs) w := by kernel_rfl
/-- Behind left. -/
def Left (w0 : World) (b c r : Nat) (G : List (Nat × List Value)) (w : World) (m : M) (vs : List Int) (e : Ending) (W : World) : Prop :=
  ∃ (sl : Sl) (G2 : List (Nat × List Value)) (m2 : M), e = .returned (.tuple #[.slice sl.a sl.n sl.cap, .bool true]) ∧ ButN [b, c, r] w.heap.size w W ∧ HasE w0 b c r G2 W m2 ∧ Grow w G G2 ∧ AskN m m2 400 ∧ sl.In G2 (ints vs)
section
variable {w0 w : World} {b c r : Nat} {G : List (Nat × List Value)} {m : M}
set_option maxHeartbeats 2000000 in
theorem left_any (h : HasE w0 b c r G w m) (hcm : m.count ≤ 100000) {y : Yd} {hd p1 p2 : Int} {x0 : Int × Rv × Int} {l' : List (Int × Rv × Int)} (hw : m.look hd = some (.word x0.1)) (hc : Ch m x0.1 (x0 :: l')) (hlen : (x0 :: l').length ≤ 40) (hver : ∀ x, x ∈ x0 :: l' → x.2.1.ver ≤ 1000000) (hn : y.n = ⟨⟨#[107]⟩, hd, [p1, p2]⟩)
    {chv : List Int} (hch : y.ch.In G (ints chv)) (hcl : (x0 :: l').length ≤ chv.length) (hcl2 : chv.length ≤ 1000) (hlt : b < w.heap.size ∧ c < w.heap.size ∧ r < w.heap.size) :
    Calls Tryd.prog 49 #[Yd.v b y] w fun e w' => Left w0 b c r G w m ((x0 :: l').map fun x => x.2.1.ver) e w' := by
  obtain ⟨wa, hwa⟩ : ∃ W, W = ((w.alloc (.cells (Yd.row b y).toArray 29)).alloc (.cells #[.slice none 0 0] 25)).alloc (.cells #[.bool true] 4) := ⟨_, rfl⟩
  have b1 := (Below.refl w.heap.size w).alloc (Nat.le_refl _) (.cells (Yd.row b y).toArray 29)
  have b2 := (Below.refl (w.alloc (.cells (Yd.row b y).toArray 29)).heap.size (w.alloc (.cells (Yd.row b y).toArray 29))).alloc (Nat.le_refl _) (.cells #[.slice none 0 0] 25)
  have b3 := (Below.refl ((w.alloc (.cells (Yd.row b y).toArray 29)).alloc (.cells #[.slice none 0 0] 25)).heap.size ((w.alloc (.cells (Yd.row b y).toArray 29)).alloc (.cells #[.slice none 0 0] 25))).alloc (Nat.le_refl _) (.cells #[.bool true] 4)
  have z1 : (w.alloc (.cells (Yd.row b y).toArray 29)).heap.size = w.heap.size + 1 := by simp
  have z2 : ((w.alloc (.cells (Yd.row b y).toArray 29)).alloc (.cells #[.slice none 0 0] 25)).heap.size = w.heap.size + 1 + 1 := by simp
  have hza : wa.heap.size = w.heap.size + 3 := by rw [hwa]; simp
  have ba : Below w.heap.size w wa := by rw [hwa]; exact (b1.trans (b2.mono (by simp))).trans (b3.mono (by simp; omega))
  have s1 : SVar wa w.heap.size (Yd.row b y) := by rw [hwa]; exact ((snew w (Yd.row b y) 29).later b2).later b3
  have s2 : SVar wa (w.heap.size + 1) [.slice none 0 0] := by
    have := (snew (w.alloc (.cells (Yd.row b y).toArray 29)) [.slice none 0 0] 25).later b3
    rw [z1] at this
    rw [hwa]; exact this
  have s3 : SVar wa (w.heap.size + 1 + 1) [.bool true] := by
    have := snew ((w.alloc (.cells (Yd.row b y).toArray 29)).alloc (.cells #[.slice none 0 0] 25)) [.bool true] 4
    rw [z2] at this
    rw [hwa]; exact this
  have l2 : LocM w0 b c r G wa (w.heap.size + 1) := by
    have := (h.later b1).fresh (.cells #[.slice none 0 0] 25)
    rw [z1] at this
    rw [hwa]; exact this.later b3.size (Grow.refl _ _)
  have l3 : LocM w0 b c r G wa (w.heap.size + 1 + 1) := by
    have := ((h.later b1).later b2).fresh (.cells #[.bool true] 4)
    rw [z2] at this
    rw [hwa]; exact this
  have hEa := h.later ba
  have hdo := do_any wa b 67 #[.pointer (some ⟨w.heap.size, 0, none⟩), .pointer (some ⟨w.heap.size + 1 + 1, 0, none⟩), .pointer (some ⟨w.heap.size + 1, 0, none⟩)] _ ent_67
    (left1_any hEa hcm hw hc hlen hver hn hch hcl hcl2 s1 ⟨by omega, by simp only [List.mem_cons, List.not_mem_nil, or_false]; omega⟩ ⟨_, s3⟩ l3 s2 l2 (by omega))
  have hm := hmf
  have c0 := s1.cell (i := 0) rfl
  simp only [Yd.row] at hwa
  have HW := Lib.hid hwa.symm
  have HB := Lib.hid (⟨ba, hza, hlt⟩ : _ ∧ _ ∧ _)
  unfold Yd.v
  clear h hcm hw hc hlen hver hn hch hcl hcl2 hlt hwa b1 b2 b3 z1 z2 hza ba s1 s2 s3 l2 l3 hEa
  go_enter Tryd.func49, Tryd.ntmps49
  go_wp2_with (first | rw [HW.out] | fail)
  refine hdo.mono ?_
  rintro e w2 ⟨u, rfl, rfl, G2, m2, sl, q1, q2, q3, q4, q5, q6, q7⟩
  have co := q5.cell (i := 0) rfl
  have cr := q6.cell (i := 0) rfl
  have HX : Hid (∀ W, Below w2.heap.size w2 W → Left w0 b c r G w m ((x0 :: l').map fun x => x.2.1.ver) (.returned (.tuple #[.slice sl.a sl.n sl.cap, .bool true])) W) := fun W hW => by
    obtain ⟨ba, hza, hlt⟩ := HB.out
    have hs := q1.size
    refine ⟨sl, G2, m2, rfl, ⟨hW.os.trans (q1.os.trans ba.os), hW.tape.trans (q1.tape.trans ba.tape), hW.output.trans (q1.output.trans ba.output), by have := hW.size; omega, fun z hz hn => ?_⟩, q2.later hW, q3.from ba.size, q4, q7⟩
    rw [hW.block z (by omega), q1.block z (by omega) (by simp only [List.mem_cons, List.not_mem_nil, or_false] at hn ⊢; omega)]
    exact ba.block z hz
  clear hdo q1 q2 q3 q4 q5 q6 q7 HB HW c0
  go_wp2_with fail
  go_quiet (fail)
  go_wp2
  go_ret2
  exact HX.out _ (below_drewN _ _)
end
end Go.Proofs.YtbcpdkmbbgcfbaaDoor
/- What the law's fits comes to. Condition: the library's table stands. -/
namespace Go.Proofs.YtbcpdkmbbgcfbaaDoor
open Go.RowKit Go.Op
set_option maxRecDepth 100000

section
variable {w0 w : World} {b c r : Nat} {G : List (Nat × List Value)} {m : M}
set_option maxHeartbeats 2000000 in
theorem fits_any (h : HasE w0 b c r G w m) (hcm : m.count ≤ 100000) {y : Yd} {hd p1 p2 : Int} {x0 : Int × Rv × Int} {l' : List (Int × Rv × Int)} (hw : m.look hd = some (.word x0.1)) (hc : Ch m x0.1 (x0 :: l')) (hlen : (x0 :: l').length ≤ 40) (hver : ∀ x, x ∈ x0 :: l' → x.2.1.ver ≤ 1000000) (hn : y.n = ⟨⟨#[107]⟩, hd, [p1, p2]⟩)
    {chv : List Int} (hch : y.ch.In G (ints chv)) (hcl2 : chv.length ≤ 1000) (n : Nat) (hnl : n = (x0 :: l').length) (hcl : n ≤ chv.length) (htk : ((x0 :: l').map fun x => x.2.1.ver) = chv.take n) (hlt : b < w.heap.size ∧ c < w.heap.size ∧ r < w.heap.size) :
    Calls Tryd.prog 22 #[Yd.v b y, .int .i64 (n : Int)] w fun e w' => e = .returned (.bool true) ∧ ButN [b, c, r] w.heap.size w w' := by
  obtain ⟨wa, hwa⟩ : ∃ W, W = w.alloc (.cells (Yd.row b y).toArray 29) := ⟨_, rfl⟩
  have ba : Below w.heap.size w wa := by rw [hwa]; exact (Below.refl _ w).alloc (Nat.le_refl _) _
  have s1 : SVar wa w.heap.size (Yd.row b y) := by rw [hwa]; exact snew _ _ _
  have hza : wa.heap.size = w.heap.size + 1 := by rw [hwa]; simp
  have hl := left_any (h.later ba) hcm hw hc hlen hver hn hch (by omega) hcl2 ⟨by omega, by omega, by omega⟩
  have hld := s1.load sh29
  rw [htk] at hl
  have htl : (chv.take n).length = n := by rw [List.length_take]; omega
  have hchn : y.ch.n = chv.length := by rw [← ints_length]; exact hch.n
  have HB := Lib.hid (⟨ba, hza, s1, hlt, hch, hcl, htl⟩ : _ ∧ _ ∧ _ ∧ _ ∧ _ ∧ _ ∧ _)
  have hn40 : (n : Int) ≤ 40 := by omega
  have hn1 : (n : Int) ≤ (chv.length : Int) := by omega
  have c5 := s1.cell (i := 5) rfl
  rw [hchn] at c5
  simp only [Yd.row] at hwa hld
  have HW := Lib.hid hwa.symm
  have HCN := Lib.hid hchn
  unfold Yd.v at hl ⊢
  clear hchn h hcm hw hc hlen hver hn hch hcl hcl2 hlt hwa ba s1 hza htk htl hnl
  go_enter Tryd.func22, Tryd.ntmps22
  go_wp2_with (first | rw [HW.out] | ((with_reducible refine load_run ?_ (.tmp 2) 29 ?_ ?_ hld ?_); exact rfl; exact rfl; exact rfl) | fail)
  refine hl.mono ?_
  rintro e w2 ⟨sl, G2, m2, rfl, q1, q2, q3, q4, q5⟩
  obtain ⟨ba, hza, s1, hlt, hch, hcl, htl⟩ := HB.out
  have s2 : SVar w2 w.heap.size (Yd.row b y) := s1.same q1.size (q1.block _ s1.lt (by simp only [List.mem_cons, List.not_mem_nil, or_false]; omega))
  have hsn : sl.n = n := by rw [q5.n, ints_length, htl]
  have hch2 := hch.more fun x hx => q3.1 x hx
  clear c5
  have c5 := s2.cell (i := 5) rfl
  rw [HCN.out] at c5
  rw [hsn]
  have HQ := Lib.hid (⟨q1, q2, q5, hch2, ba, hza, hlt, hcl⟩ : _ ∧ _ ∧ _ ∧ _ ∧ _ ∧ _ ∧ _ ∧ _)
  have HF : Hid (∀ W, Below w2.heap.size w2 W → ButN [b, c, r] w.heap.size w W) := fun W hW => by
    have hs := q1.size
    refine ⟨hW.os.trans (q1.os.trans ba.os), hW.tape.trans (q1.tape.trans ba.tape), hW.output.trans (q1.output.trans ba.output), by have := hW.size; omega, fun z hz hn => ?_⟩
    rw [hW.block z (by omega), q1.block z (by omega) hn]
    exact ba.block z hz
  clear hl q1 q2 q3 q4 q5 ba hza s1 hlt hch hcl htl s2 hsn hch2 HB HW hld
  go_wp2_with fail
  go_loopw [7] (fun iv wr => ∃ i : Nat, iv = .int .i64 (i : Int) ∧ i ≤ n ∧ Hid (Below w2.heap.size w2 wr)) (fun iv _ => n - (intOf iv).toNat)
  case atStart => exact ⟨0, rfl, Nat.zero_le _, Below.refl _ _⟩
  case round =>
    obtain ⟨i, rfl, hi, hX⟩ := hrel
    obtain ⟨q1, q2, q5, hch2, ba, hza, hlt, hcl⟩ := HQ.out
    by_cases hin : i < n
    · have hin2 : (i : Int) < (n : Int) := by omega
      have hin3 : (i : Int) < (chv.length : Int) := by omega
      obtain ⟨x, hx⟩ : ∃ x, chv[i]? = some x := ⟨_, List.getElem?_eq_getElem (by omega)⟩
      have hE3 := q2.later hX.out
      obtain ⟨g, o, ea, ce⟩ := hE3.slcell (i := i) q5 (x := .int .i64 x) (ints_get (by rw [List.getElem?_take, if_pos hin]; exact hx))
      obtain ⟨g2, o2, ea2, ce2⟩ := hE3.slcell (i := i) hch2 (x := .int .i64 x) (ints_get hx)
      have c5r := ((hX.out).cell (p := ⟨w.heap.size, 5, none⟩) (by have := q1.size; show w.heap.size < w2.heap.size; omega)).trans c5
      have HN : Hid (∀ W, Below wr.heap.size wr W → Below w2.heap.size w2 W) := fun W hW => hX.out.trans (hW.mono hX.out.size)
      rw [ea2] at c5r
      rw [ea]
      clear q1 q2 q5 hch2 ba hza hlt hcl hE3 ea ea2 hx hX c5
      go_wp2_with fail
      go_quiet (fail)
      go_wp2_with fail
      exact ⟨⟨i + 1, rfl, by omega, HN.out _ (below_drewN _ _)⟩, by simp only [intOf]; omega⟩
    · have hin2 : ¬ (i : Int) < (n : Int) := by omega
      have HE := Lib.hid (HF.out wr hX.out)
      clear q1 q2 q5 hch2 ba hza hlt hcl hX c5
      go_wp2_with fail
      go_ret
      exact ⟨rfl, HE.out⟩
end
end Go.Proofs.YtbcpdkmbbgcfbaaDoor
/- Chains that were cut: what is left of them. No condition. -/
namespace Go.Proofs.YtbcpdkmbbgcfbaaDoor
open Go.RowKit Go.Op
set_option maxRecDepth 100000

theorem prevs_flat : ∀ {l : List (Int × Rv × Int)} {k : Int}, k ∈ prevs l → k ∈ flat l := fun h => by
  obtain ⟨x, hx, rfl⟩ := List.mem_map.1 h
  exact flat_mem.2 ⟨x, hx, .inr rfl⟩
theorem prevs_nodup : ∀ {l : List (Int × Rv × Int)}, (flat l).Nodup → (prevs l).Nodup
  | [], _ => List.nodup_nil
  | x :: l, h => by
    have h2 : (x.1 :: x.2.2 :: flat l).Nodup := h
    have h3 := List.nodup_cons.1 (List.nodup_cons.1 h2).2
    exact List.nodup_cons.2 ⟨fun e => h3.1 (prevs_flat e), prevs_nodup h3.2⟩
theorem prevs_drop {l : List (Int × Rv × Int)} {i : Nat} {k : Int} (h : k ∈ prevs (l.drop i)) : k ∈ prevs l := by
  obtain ⟨x, hx, rfl⟩ := List.mem_map.1 h
  exact List.mem_map.2 ⟨x, List.mem_of_mem_drop hx, rfl⟩
theorem Ch.not_prev {m : M} {l : List (Int × Rv × Int)} {h : Int} (hc : Ch m h l) {k : Int} (hk : ∀ x, m.look k ≠ some (.word x)) : k ∉ prevs l := fun e => by
  obtain ⟨x, hx, rfl⟩ := List.mem_map.1 e
  obtain ⟨j, hj⟩ := (hc.age x hx).2
  exact hk j hj
/-- What is left of a chain whose prevs from an age on tell 0. -/
theorem Ch.cut {m m' : M} : ∀ {l : List (Int × Rv × Int)} {h : Int} (i : Nat), Ch m h l → (flat l).Nodup → (∀ k, m'.look k = if k ∈ prevs (l.drop i) then some (.word 0) else m.look k) → i < l.length → Ch m' h (l.take (i + 1))
  | [], _, i, _, _, _, hi => by simp at hi
  | x :: l, h, 0, hc, _, hs, _ => by
    have hn := hc.not_prev (k := h) fun y e => by rw [hc.2.2.1] at e; cases e
    obtain ⟨e, h0, h1, k, h2, h3⟩ := hc
    refine ⟨e, h0, ?_, 0, ?_, rfl⟩
    · rw [hs, List.drop_zero, if_neg hn, h1]
    · rw [hs, if_pos (by simp [prevs])]
  | x :: l, h, i + 1, hc, hnd, hs, hi => by
    have hn := hc.not_prev (k := h) fun y e => by rw [hc.2.2.1] at e; cases e
    obtain ⟨e, h0, h1, k, h2, h3⟩ := hc
    rw [List.drop_succ_cons] at hs
    have hnd2 : (x.1 :: x.2.2 :: flat l).Nodup := hnd
    have h4 := List.nodup_cons.1 (List.nodup_cons.1 hnd2).2
    refine ⟨e, h0, ?_, k, ?_, Ch.cut i h3 h4.2 hs (by simpa using hi)⟩
    · rw [hs, if_neg (fun e => hn (by simp only [prevs, List.map_cons]; exact List.mem_cons_of_mem _ (prevs_drop e))), h1]
    · rw [hs, if_neg (fun e => h4.1 (prevs_flat (prevs_drop e))), h2]
theorem Ch.one {m : M} {h : Int} {x : Int × Rv × Int} (hx : h = x.1) (h0 : h ≠ 0) (h1 : m.look x.1 = some (.blk (.age x.2.1 x.2.2) .nil)) (h2 : m.look x.2.2 = some (.word 0)) : Ch m h [x] := ⟨hx, h0, by rw [hx]; exact h1, 0, h2, rfl⟩
theorem drop_cons {l : List (Int × Rv × Int)} {i : Nat} {x : Int × Rv × Int} (h : l[i]? = some x) : l.drop i = x :: l.drop (i + 1) := by
  obtain ⟨hi, rfl⟩ := List.getElem?_eq_some_iff.1 h
  exact List.drop_eq_getElem_cons hi
theorem flat_get : ∀ (l : List (Int × Rv × Int)) (j : Nat) (x : Int × Rv × Int), l[j]? = some x → (flat l)[2 * j]? = some x.1 ∧ (flat l)[2 * j + 1]? = some x.2.2
  | [], j, x, h => by simp at h
  | y :: l, 0, x, h => by
    simp at h
    subst h
    exact ⟨rfl, rfl⟩
  | y :: l, j + 1, x, h => by
    have := flat_get l j x (by simpa using h)
    have e : flat (y :: l) = y.1 :: y.2.2 :: flat l := rfl
    rw [e, show 2 * (j + 1) = 2 * j + 1 + 1 by omega, List.getElem?_cons_succ, List.getElem?_cons_succ, List.getElem?_cons_succ, List.getElem?_cons_succ]
    exact this
theorem flat_drop : ∀ (l : List (Int × Rv × Int)) (i : Nat), flat (l.drop i) = (flat l).drop (2 * i)
  | l, 0 => rfl
  | [], i + 1 => by simp [flat]
  | x :: l, i + 1 => by
    rw [List.drop_succ_cons, flat_drop l i, show 2 * (i + 1) = 2 * i + 1 + 1 by omega]
    rfl
/-- Where the ages stand that a cut takes. -/
theorem tail_pos (v : Int) : ∀ (l : List (Int × Rv × Int)), (posOf v (l.map fun x => x.2.1.ver) = -1 ∧ tailFrom v l = []) ∨ ∃ (i : Nat) (x : Int × Rv × Int), l[i]? = some x ∧ posOf v (l.map fun x => x.2.1.ver) = (i : Int) ∧ tailFrom v l = l.drop i ∧ tailFrom v (l.take (i + 1)) = [x]
  | [] => .inl ⟨rfl, rfl⟩
  | y :: l => by
    rw [List.map_cons, posOf, tailFrom]
    by_cases hv : y.2.1.ver ≤ v
    · rw [if_pos hv, if_pos hv]
      exact .inr ⟨0, y, rfl, rfl, rfl, by simp [tailFrom, hv]⟩
    · rw [if_neg hv, if_neg hv]
      rcases tail_pos v l with ⟨h1, h2⟩ | ⟨i, x, h1, h2, h3, h4⟩
      · rw [h1]
        exact .inl ⟨rfl, h2⟩
      · rw [h2, if_neg (by omega)]
        exact .inr ⟨i + 1, x, by simpa using h1, by simp, h3, by rw [List.take_succ_cons, tailFrom, if_neg hv]; exact h4⟩
/-- How many are left. -/
def leftOf (v : Int) (vs : List Int) : Int := if posOf v vs < 0 then (vs.length : Int) else posOf v vs + 1
/-- What two falls make of a chain. -/
structure Felled (m m2 : M) (l : List (Int × Rv × Int)) (n : Nat) : Prop where
  ch : Ch m2 (topOf l) (l.take n)
  same : ∀ k, k ∉ flat l → m2.look k = m.look k
  ages : ∀ x, x ∈ l → m2.look x.1 = some (.blk (.age x.2.1 x.2.2) .nil)
  cnt : m.count ≤ m2.count ∧ m2.count ≤ m.count + 500
theorem Ch.top {m : M} {h : Int} {l : List (Int × Rv × Int)} (hc : Ch m h l) : h = topOf l := by
  cases l with
  | nil => exact hc
  | cons x l => exact hc.1
theorem Ch.set_ages {m m' : M} {l : List (Int × Rv × Int)} {h : Int} {i : Nat} (hc : Ch m h l) (hs : ∀ k, m'.look k = if k ∈ prevs (l.drop i) then some (.word 0) else m.look k) : ∀ x, x ∈ l → m'.look x.1 = some (.blk (.age x.2.1 x.2.2) .nil) := fun x hx => by
  have h1 := (hc.age x hx).1
  have hn := hc.not_prev (k := x.1) fun y e => by rw [h1] at e; cases e
  rw [hs, if_neg (fun e => hn (prevs_drop e)), h1]
theorem fell2_go {l : List (Int × Rv × Int)} {h : Int} {m : M} (hc : Ch m h l) (hlen : l.length ≤ 40) (hnd : (flat l).Nodup) {i : Nat} {x : Int × Rv × Int} (hx : l[i]? = some x) :
    ∃ m1 m2, (fellP 40 x.1).go m = (some (flat (l.drop i), 0), m1) ∧ (fellP 40 x.1).go m1 = (some ([x.1, x.2.2], 0), m2) ∧ Felled m m2 l (i + 1) ∧ m1.count ≤ m.count + 120 := by
  have hi := (List.getElem?_eq_some_iff.1 hx).1
  obtain ⟨h', d1, d2, -, -⟩ := hc.drop i
  obtain ⟨x', hx', rfl, hx0, hxl⟩ := d2 hi
  rw [hx] at hx'
  cases hx'
  have hdl := List.length_drop (i := i) (l := l)
  have hne : l.drop i ≠ [] := by rw [drop_cons hx]; simp
  have hpn : (prevs (l.drop i)).Nodup := prevs_nodup (by rw [flat_drop]; exact (List.drop_sublist _ _).nodup hnd)
  obtain ⟨m1, e1, s1⟩ := fell_go (n := 40) d1 hne (by omega) hpn (by omega)
  have hp : m1.look x.2.2 = some (.word 0) := by rw [s1.look, if_pos (by rw [drop_cons hx]; simp [prevs])]
  have ha := hc.set_ages s1.look
  have c1 : Ch m1 x.1 [x] := Ch.one rfl hx0 (ha x (List.mem_of_getElem? hx)) hp
  obtain ⟨m2, e2, s2⟩ := fell_go (n := 40) c1 (by simp) (by simp) (by simp [prevs]) (by simp)
  have hs : ∀ k, m2.look k = if k ∈ prevs (l.drop i) then some (.word 0) else m.look k := fun k => by
    rw [s2.look]
    by_cases hk : k ∈ prevs [x]
    · rw [if_pos hk, if_pos]
      rw [drop_cons hx]
      simp only [prevs, List.map_cons, List.map_nil, List.mem_cons, List.not_mem_nil, or_false] at hk ⊢
      exact .inl hk
    · rw [if_neg hk, s1.look]
  have n1 := s1.cnt
  have n2 := s2.cnt
  have n3 := s1.mono
  have n4 := s2.mono
  simp only [List.length_cons, List.length_nil] at n2
  refine ⟨m1, m2, e1, e2, ⟨by rw [← hc.top]; exact hc.cut i hnd hs hi, fun k hk => ?_, hc.set_ages hs, by omega, by omega⟩, by omega⟩
  rw [hs, if_neg (fun e => hk (prevs_flat (prevs_drop e)))]
theorem cut2_go {l : List (Int × Rv × Int)} {h hd v : Int} {m : M} (hc : Ch m h l) (hw : m.look hd = some (.word h)) (hhd : hd ∉ flat l) (h0 : l ≠ []) (hlen : l.length ≤ 40) (hnd : (flat l).Nodup) :
    ∃ (n : Nat) (m1 m2 : M), leftOf v (l.map fun x => x.2.1.ver) = (n : Int) ∧ 1 ≤ n ∧ n ≤ l.length ∧ (cutP 40 hd v).go m = (some (flat (l.drop n), 0), m1) ∧ (cutP 40 hd v).go m1 = (some ([], 0), m2) ∧ Felled m m2 l n ∧ m1.count ≤ m.count + 210 ∧ m2.count ≤ m.count + 410 := by
  obtain ⟨m1, e1, s1⟩ := cut_go (v := v) (n := 40) hw hc h0 hlen (prevs_nodup hnd) (by omega)
  have hw1 : m1.look hd = some (.word h) := by
    rw [s1.look, if_neg, hw]
    intro e
    obtain ⟨p, hp⟩ := (tail_sub (v := v) l).2
    refine hhd (prevs_flat (k := hd) (l := l) ?_)
    rw [hp]
    simp only [prevs, List.map_append, List.mem_append]
    exact .inr e
  have n1 := s1.cnt
  have n3 := s1.mono
  have hl1 : 1 ≤ l.length := List.length_pos_iff.2 h0
  rcases tail_pos v l with ⟨p1, p2⟩ | ⟨i, x, p0, p1, p2, p3⟩
  · rw [p2] at e1 s1
    have hs : ∀ k, m1.look k = m.look k := fun k => by rw [s1.look]; simp [prevs]
    have c1 : Ch m1 h l := hc.mono fun x _ => ⟨hs _, hs _⟩
    obtain ⟨m2, e2, s2⟩ := cut_go (v := v) (n := 40) hw1 c1 h0 hlen (prevs_nodup hnd) (by omega)
    rw [p2] at e2 s2
    have hs2 : ∀ k, m2.look k = m.look k := fun k => by rw [s2.look]; simp [prevs, hs]
    have n2 := s2.cnt
    have n4 := s2.mono
    refine ⟨l.length, m1, m2, by rw [leftOf, p1, if_pos (by omega), List.length_map], hl1, Nat.le_refl _, by rw [e1, List.drop_length]; rfl, e2, ⟨?_, fun k _ => hs2 k, fun x hx => by rw [hs2]; exact (hc.age x hx).1, by omega, by omega⟩, by omega, by omega⟩
    rw [List.take_length, ← hc.top]
    exact hc.mono fun x _ => ⟨hs2 _, hs2 _⟩
  · have hi := (List.getElem?_eq_some_iff.1 p0).1
    rw [p2] at e1 s1
    have c1 : Ch m1 h (l.take (i + 1)) := hc.cut i hnd s1.look hi
    have ht0 : l.take (i + 1) ≠ [] := fun e => by have := congrArg List.length e; rw [List.length_take, List.length_nil] at this; omega
    have htl := List.length_take (i := i + 1) (l := l)
    have hnd1 : (flat (l.take (i + 1))).Nodup := by
      have : flat (l.take (i + 1) ++ l.drop (i + 1)) = flat (l.take (i + 1)) ++ flat (l.drop (i + 1)) := List.flatMap_append
      rw [List.take_append_drop] at this
      rw [this] at hnd
      exact (List.nodup_append.1 hnd).1
    obtain ⟨m2, e2, s2⟩ := cut_go (v := v) (n := 40) hw1 c1 ht0 (by omega) (prevs_nodup hnd1) (by omega)
    rw [p3] at e2 s2
    have hs : ∀ k, m2.look k = if k ∈ prevs (l.drop i) then some (.word 0) else m.look k := fun k => by
      rw [s2.look]
      by_cases hk : k ∈ prevs [x]
      · rw [if_pos hk, if_pos]
        rw [drop_cons p0]
        simp only [prevs, List.map_cons, List.map_nil, List.mem_cons, List.not_mem_nil, or_false] at hk ⊢
        exact .inl hk
      · rw [if_neg hk, s1.look]
    have n2 := s2.cnt
    have n4 := s2.mono
    refine ⟨i + 1, m1, m2, by rw [leftOf, p1, if_neg (by omega)]; push_cast; rfl, by omega, by omega, ?_, e2, ⟨by rw [← hc.top]; exact hc.cut i hnd hs hi, fun k hk => ?_, hc.set_ages hs, by omega, by omega⟩, by omega, by omega⟩
    · rw [e1, drop_cons p0]; rfl
    · rw [hs, if_neg (fun e => hk (prevs_flat (prevs_drop e)))]
theorem Felled.asked {m m2 m3 : M} {l : List (Int × Rv × Int)} {n : Nat} {k : Int} (h : Felled m m2 l n) (ha : AskN m2 m3 k) (hk : m3.count ≤ m.count + 500) : Felled m m3 l n :=
  ⟨h.ch.asked ha, fun j hj => (ha.look j).trans (h.same j hj), fun x hx => (ha.look _).trans (h.ages x hx), Int.le_trans h.cnt.1 ha.mono, hk⟩
end Go.Proofs.YtbcpdkmbbgcfbaaDoor
/- NodeFells's closure. Condition: the library's table stands. -/
namespace Go.Proofs.YtbcpdkmbbgcfbaaDoor
open Go.RowKit Go.Op
set_option maxRecDepth 100000

/-- Behind a closure that fells. -/
def Behind (w0 : World) (b c r : Nat) (G : List (Nat × List Value)) (w : World) (m : M) (l : List (Int × Rv × Int)) (n : Nat) (W : World) : Prop :=
  ∃ (G2 : List (Nat × List Value)) (m2 : M), ButN [b, c, r] w.heap.size w W ∧ HasE w0 b c r G2 W m2 ∧ Grow w G G2 ∧ Felled m m2 l n
section
variable {w0 w : World} {b c r : Nat} {G : List (Nat × List Value)} {zy zi : Nat} {m : M}
set_option maxHeartbeats 2000000 in
theorem fells1_any (h : HasE w0 b c r G w m) (hcm : m.count ≤ 1000) {y : Yd} {l : List (Int × Rv × Int)} {i : Nat} {x : Int × Rv × Int} (hx : l[i]? = some x) (hch : Ch m (topOf l) l) (hlen : l.length ≤ 40) (hnd : (flat l).Nodup)
    (hhs : y.hs.In G (ints (l.map Prod.fst))) (hy : SVar w zy (Yd.row b y)) (ly : zy < w.heap.size ∧ zy ∉ [b, c, r]) (ci : w.cell? ⟨zi, 0, none⟩ = some (.int .i64 (i : Int))) (li : zi < w.heap.size ∧ zi ∉ [b, c, r]) :
    Calls Tryd.prog 23 (#[.pointer (some ⟨w.heap.size, 0, none⟩)] ++ #[.pointer (some ⟨zy, 0, none⟩), .pointer (some ⟨zi, 0, none⟩)]) (w.alloc (portObj b)) fun e w' => ∃ u, e = .returned u ∧ u = .iface 4 (.bool true) ∧ Behind w0 b c r G w m l (i + 1) w' := by
  have hD := Dgo.start h (Z := [b, c, r]) ⟨by simp, by simp, by simp⟩
  obtain ⟨m1, m2, e1, e2, hF, hc1⟩ := fell2_go hch hlen hnd hx
  have hil := (List.getElem?_eq_some_iff.1 hx).1
  obtain ⟨g, o, ea, -⟩ := hD.sys.slcell (i := i) hhs (x := .int .i64 x.1) (ints_get (by rw [List.getElem?_map, hx]; rfl))
  obtain ⟨n, hn⟩ : ∃ n, n = l.length := ⟨_, rfl⟩
  have hhn := hhs.n
  rw [ints_length, List.length_map, ← hn] at hhn
  have c6 := hy.cell (i := 6) rfl
  rw [hhn, ea] at c6
  have K0 := Lib.hid (fun (t1 : Value) (G1 : List (Nat × List Value)) (w1 : World) (m1 : M) (s1 : Pt) (hd : Dgo w0 b c r w.heap.size [b, c, r] w t1 G G1 w1 m1 s1) => (⟨LocM.cellD ly.2 ly.1 hd c6, LocM.cellD li.2 li.1 hd ci, fun (j : Nat) (z : Int × Rv × Int) (hz : l[j]? = some z) => (by
    obtain ⟨g', o', ea', ce⟩ := hd.sys.slcell (i := j) (hhs.more fun x hx => hd.gro.1 x hx) (x := .int .i64 z.1) (ints_get (by rw [List.getElem?_map, hz]; rfl))
    rw [ea] at ea'
    cases ea'
    exact ce : w1.cell? ⟨g, o + j, none⟩ = some (.int .i64 z.1))⟩ : _ ∧ _ ∧ _))
  obtain ⟨k6, ki, kx⟩ := K0.out _ _ _ _ _ hD
  have kx1 := kx i x hx
  have hmk := mkb4
  have hl := Fell_E hD.sys 40 (by omega) x.1 (by rw [(ptDo_quiet w b).run, e1]; simp)
  have hne2 : ((fellP 40 x.1).run (ptDo w b) m1).1 ≠ some none := by rw [(ptDo_quiet w b).run, e2]; simp
  have HD := Lib.hid hD
  have HE := Lib.hid (⟨e1, e2, hne2⟩ : _ ∧ _ ∧ _)
  have HC := Lib.hid (⟨hcm, hc1, hF.cnt⟩ : _ ∧ _ ∧ _)
  have HX := Lib.hid (⟨hx, hn, hF⟩ : _ ∧ _ ∧ _)
  have hi1 : (i : Int) < (n : Int) := by omega
  have hi2 : (n : Int) ≤ 40 := by omega
  show Calls Tryd.prog 23 #[.pointer (some ⟨w.heap.size, 0, none⟩), .pointer (some ⟨zy, 0, none⟩), .pointer (some ⟨zi, 0, none⟩)] (w.alloc (portObj b)) _
  clear h hcm hch hlen hnd hhs hy ly ci li hD e1 e2 hF hc1 hne2 hil ea hn hhn c6 kx
  generalize hwp : w.alloc (portObj b) = wp at *
  go_enter Tryd.func23, Tryd.ntmps23
  go_wp2_with fail
  refine hl.mono ?_
  rintro e w1 hE
  obtain ⟨t1, G1, u, rfl, ⟨q, sl1, hq, hin1, rfl⟩, ha⟩ := hE.done (ptDo_quiet w b)
  rw [HE.out.1] at hq ha
  cases hq
  simp only at hin1 ha ⊢
  have hD1 := HD.out.aft ha
  clear k6 ki kx1
  obtain ⟨k6, ki, kx⟩ := K0.out _ _ _ _ _ hD1
  have kx1 := kx i x HX.out.1
  have hl2 := Fell_E hD1.sys 40 (by have := HC.out; omega) x.1 HE.out.2.2
  have HD1 := Lib.hid hD1
  have HI1 := Lib.hid hin1
  clear hl hE ha hD1 hin1 kx
  go_wp2_with fail
  refine hl2.mono ?_
  rintro e w2 hE
  obtain ⟨t2, G2, u, rfl, ⟨q, sl2, hq, hin2, rfl⟩, ha⟩ := hE.done (ptDo_quiet w b)
  rw [HE.out.2.1] at hq ha
  cases hq
  simp only at hin2 ha ⊢
  have hD2 := HD1.out.aft ha
  have hne3 : ((fellP 40 0).run (ptDo w b) m2).1 ≠ some none := by rw [(ptDo_quiet w b).run]; simp [fellP, Pr.go]
  have hl3 := Fell_E hD2.sys 40 (by have := HC.out; omega) 0 hne3
  have HD2 := Lib.hid hD2
  have HI2 := Lib.hid (⟨hin2, ha.gro⟩ : _ ∧ _)
  clear hl2 hE ha hD2 hin2 hne3 k6 ki kx1
  go_wp2_with fail
  refine hl3.mono ?_
  rintro e w3 hE
  obtain ⟨t3, G3, u, rfl, ⟨q, sl3, hq, hin3, rfl⟩, ha⟩ := hE.done (ptDo_quiet w b)
  have e3 : (fellP 40 0).go m2 = (some ([], 0), m2) := by simp [fellP, Pr.go]
  rw [e3] at hq ha
  cases hq
  simp only at hin3 ha ⊢
  have hD3 := HD2.out.aft ha
  have hn3 := hin3.n
  rw [ints_length] at hn3
  have hs1 := (HI1.out.more fun x hx => HI2.out.2.1 x hx).more fun x hx => ha.gro.1 x hx
  have hs2 := HI2.out.1.more fun x hx => ha.gro.1 x hx
  have hn1 := hs1.n
  have hn2 := hs2.n
  obtain ⟨hx, hn, hF⟩ := HX.out
  have hxl := (List.getElem?_eq_some_iff.1 hx).1
  rw [ints_length, flat_length, List.length_drop, ← hn] at hn1
  rw [ints_length] at hn2
  have K1 := Lib.hid (fun (W : World) (hW : Below w3.heap.size w3 W) => (K0.out _ _ _ _ _ (hD3.later hW)))
  obtain ⟨g1, o1, ea1, -⟩ := hD3.sys.slcell (i := 0) hs1 (x := .int .i64 x.1) (ints_get (by rw [drop_cons hx]; rfl))
  obtain ⟨g2, o2, ea2, -⟩ := hD3.sys.slcell (i := 0) hs2 (x := .int .i64 x.1) (ints_get rfl)
  have K2 := Lib.hid (fun (W : World) (hW : Below w3.heap.size w3 W) => (⟨fun (j : Nat) (z : Int) (hz : (flat (l.drop i))[j]? = some z) => (by
      obtain ⟨g', o', ea', ce⟩ := (hD3.later hW).sys.slcell (i := j) hs1 (x := .int .i64 z) (ints_get hz)
      rw [ea1] at ea'
      cases ea'
      exact ce : W.cell? ⟨g1, o1 + j, none⟩ = some (.int .i64 z)), fun (j : Nat) (z : Int) (hz : [x.1, x.2.2][j]? = some z) => (by
      obtain ⟨g', o', ea', ce⟩ := (hD3.later hW).sys.slcell (i := j) hs2 (x := .int .i64 z) (ints_get hz)
      rw [ea2] at ea'
      cases ea'
      exact ce : W.cell? ⟨g2, o2 + j, none⟩ = some (.int .i64 z))⟩ : _ ∧ _))
  have HB : Hid (∀ W, Below w3.heap.size w3 W → Behind w0 b c r G w m l (i + 1) W) := fun W hW => ⟨G3, m2, (hD3.later hW).but, (hD3.later hW).sys.mem, hD3.gro, hF⟩
  obtain ⟨a1, nn1, cap1⟩ := sl1
  obtain ⟨a2, nn2, cap2⟩ := sl2
  obtain ⟨a3, nn3, cap3⟩ := sl3
  simp only at hn1 hn2 hn3 ea1 ea2 ⊢
  have hn2' : nn2 = 2 := hn2
  have hn3' : nn3 = 0 := hn3
  subst ea1 ea2 hn2' hn3'
  have hq1 : (nn1 : Int) = 2 * ((n : Int) - (i : Int)) := by omega
  have hq2 : ((nn1 : Int) != 2 * ((n : Int) - (i : Int))) = false := by simpa using hq1
  have hq3 : (nn1 : Int) ≤ 80 := by omega
  have hq4 : (2 : Int) ≤ (nn1 : Int) := by omega
  have HQ := Lib.hid hq1
  obtain ⟨k6, ki, -⟩ := K1.out w3 (Below.refl _ _)
  clear hl3 hE ha hin3 hD3 hn3 hs1 hs2 hn1 hn2 hx hn hF hxl e3 hq1
  go_wp2_with fail
  go_loopw [11] (fun jv wr => ∃ j : Nat, jv = .int .i64 (j : Int) ∧ (i : Int) + (j : Int) ≤ (n : Int) ∧ Hid (Below w3.heap.size w3 wr)) (fun jv _ => n - (intOf jv).toNat)
  case atStart => exact ⟨0, rfl, by omega, Below.refl _ _⟩
  case round =>
    obtain ⟨j, rfl, hj, hX⟩ := hrel
    obtain ⟨hx, hn, hF⟩ := HX.out
    by_cases hin : i + j < n
    · obtain ⟨z, hz⟩ : ∃ z, l[i + j]? = some z := ⟨_, List.getElem?_eq_getElem (by omega)⟩
      have hj1 : (2 * (j : Int) < (nn1 : Int)) := by have := HQ.out; omega
      have hj2 : (i : Int) + (j : Int) < (n : Int) := by omega
      have hj3 : (j : Int) ≤ 40 := by omega
      have ca := (K2.out wr hX.out).1 (2 * j) z.1 (flat_get (l.drop i) j z (by rw [List.getElem?_drop]; exact hz)).1
      obtain ⟨r6, ri, rx⟩ := K1.out wr hX.out
      have cb := rx (i + j) z hz
      have HN : Hid (∀ W, Below wr.heap.size wr W → Below w3.heap.size w3 W) := fun W hW => hX.out.trans (hW.mono hX.out.size)
      clear hx hn hF rx hX k6 ki hz hin
      go_wp2_with fail
      go_quiet (fail)
      go_wp2_with fail
      exact ⟨⟨j + 1, rfl, by push_cast; omega, HN.out _ (below_drewN _ _)⟩, by simp only [intOf]; omega⟩
    · have hj1 : ¬ (2 * (j : Int) < (nn1 : Int)) := by have := HQ.out; omega
      have hj3 : (j : Int) ≤ 40 := by omega
      have k2 := K2.out wr hX.out
      have ca := k2.1 0 x.1 (by rw [drop_cons hx]; rfl)
      have cb := k2.1 1 x.2.2 (by rw [drop_cons hx]; rfl)
      have cc := k2.2 0 x.1 rfl
      have cd := k2.2 1 x.2.2 rfl
      have HE : Hid (∀ W, Below wr.heap.size wr W → Behind w0 b c r G w m l (i + 1) W) := fun W hW => HB.out W (hX.out.trans (hW.mono hX.out.size))
      rw [Nat.add_zero] at ca cc
      clear hx hn hF hX k6 ki hin k2
      go_wp2_with fail
      go_quiet (fail)
      go_wp2
      go_ret
      exact ⟨_, rfl, rfl, HE.out _ (below_drewN _ _)⟩
end
end Go.Proofs.YtbcpdkmbbgcfbaaDoor
/- NodeFells's law. Condition: the library's table stands. -/
namespace Go.Proofs.YtbcpdkmbbgcfbaaDoor
open Go.RowKit Go.Op
set_option maxRecDepth 100000

theorem ent_23 (xs : Array Value) (w : World) : (callFunc 23 xs).run Tryd.prog w = .ok (.enter 23 xs) w := by kernel_rfl
theorem HasE.lt {w0 w : World} {b c r : Nat} {G : List (Nat × List Value)} {m : M} (h : HasE w0 b c r G w m) : b < w.heap.size ∧ c < w.heap.size ∧ r < w.heap.size := by
  obtain ⟨m0, h1, -⟩ := h
  exact ⟨h1.at_.own.lb, h1.at_.own.lc, h1.at_.own.lr⟩
theorem laid_ver {w w' : World} {bs : List Nat} {b c r : Nat} {G : List (Nat × List Value)} {m : M} {y : Yd} {hd p1 p2 : Int} {l : List (Int × Rv × Int)} (hL : Laid w bs w' b c r G m y hd p1 p2 l) (hB : ∀ b, b ∈ bs → b ≤ 255) (h40 : bs.length ≤ 40) : ∀ x, x ∈ l → x.2.1.ver ≤ 1000000 := fun x hx => by
  have h1 : x.2.1.ver ∈ vers bs.reverse := by rw [← hL.vers]; exact List.mem_map_of_mem (f := fun x => x.2.1.ver) hx
  have h2 := vers_all bs.reverse (fun b hb => hB b (List.mem_reverse.1 hb)) _ h1
  rw [List.length_reverse] at h2
  omega
theorem ym_flat {m : M} {H hd p1 p2 : Int} {l : List (Int × Rv × Int)} (h : YM m H hd p1 p2 l) : hd ∉ flat l ∧ (flat l).Nodup ∧ H ∉ flat l := by
  have q := h.nd
  have h1 := List.nodup_cons.1 q
  have h2 := List.nodup_cons.1 h1.2
  have h3 := List.nodup_cons.1 h2.2
  have h4 := List.nodup_cons.1 h3.2
  exact ⟨fun e => h2.1 (List.mem_cons_of_mem _ (List.mem_cons_of_mem _ e)), h4.2, fun e => h1.1 (List.mem_cons_of_mem _ (List.mem_cons_of_mem _ (List.mem_cons_of_mem _ e)))⟩
/-- What is left fits. -/
theorem fits_behind {w1 w2 W : World} {bs : List Nat} {b c r : Nat} {G G2 : List (Nat × List Value)} {m m2 : M} {y : Yd} {hd p1 p2 : Int} {l : List (Int × Rv × Int)} (hL : Laid w1 bs w2 b c r G m y hd p1 p2 l) (hE : HasE w1 b c r G2 W m2) (hg : ∀ x, x ∈ G → x ∈ G2) {n : Nat} (hF : Felled m m2 l n) (h1 : 1 ≤ n) (h2 : n ≤ l.length) (h40 : l.length ≤ 40) (hver : ∀ x, x ∈ l → x.2.1.ver ≤ 1000000) :
    Calls Tryd.prog 22 #[Yd.v b y, .int .i64 (n : Int)] W fun e w' => e = .returned (.bool true) ∧ ButN [b, c, r] W.heap.size W w' := by
  match l, hL, hF, h2, h40, hver with
  | [], _, _, h2, _, _ => simp at h2; omega
  | x0 :: l', hL, hF, h2, h40, hver =>
  obtain ⟨k, rfl⟩ : ∃ k, n = k + 1 := ⟨n - 1, by omega⟩
  have hc := hF.ch
  have hch := hL.ch
  rw [← hL.vers] at hch
  rw [List.take_succ_cons] at hc
  have hcnt := hL.ym.cnt
  have hcn := hF.cnt
  have ht := List.length_take (i := k) (l := l')
  simp only [List.length_cons] at h2 h40 hcnt
  refine fits_any hE (by omega) (x0 := x0) (l' := l'.take k) (hd := hd) (p1 := p1) (p2 := p2) ?_ hc (by simp only [List.length_cons]; omega) (fun x hx => hver x ?_) hL.n (hch.more hg) (by rw [List.length_map]; simp only [List.length_cons]; omega) (k + 1) (by simp only [List.length_cons]; omega) (by rw [List.length_map]; simp only [List.length_cons]; omega) ?_ hE.lt
  · rw [hF.same hd (ym_flat hL.ym).1]; exact hL.ym.word
  · rcases List.mem_cons.1 hx with rfl | hx
    · exact List.mem_cons_self
    · exact List.mem_cons_of_mem _ (List.mem_of_mem_take hx)
  · rw [List.map_cons, List.map_cons, List.take_succ_cons, List.map_take]
set_option maxHeartbeats 2000000 in
theorem fells_law (w : World) (hT : TabAt w) (a : Option Addr) (cap : Nat) (bs : List Nat) (hb : Bys w [] a bs) (a8 : Nat) (h8 : a8 ≤ 255) : Calls Tryd.prog 5 #[.slice a bs.length cap, .int .u8 (a8 : Int)] w fun e w' => e = .returned (.bool true) ∧ Below w.heap.size w w' := by
  have haw := awake_any w hT
  have a4 := as4_yes
  have hm := hmf
  have HT := Lib.hid hT
  have HB := Lib.hid hb
  obtain ⟨n, hn⟩ : ∃ n, n = bs.length := ⟨_, rfl⟩
  have HN := Lib.hid hn
  have q8 : (a8 : Int) ≤ 255 := by omega
  rw [← hn]
  clear hT hb hn h8
  go_enter Tryd.func5, Tryd.ntmps5
  go_wp2_with fail
  refine haw.mono ?_
  rintro e w1 ⟨rfl, hb1⟩
  by_cases hin : 1 ≤ n ∧ n ≤ 40
  · have i1 : ¬ ((n : Int) < 1) := by omega
    have i2 : ¬ (40 < (n : Int)) := by omega
    have hl := lay_any w1 (HT.out.below hb1) (a := a) (cap := cap) bs (by rw [← HN.out]; omega) (HB.out.later hb1)
    rw [← HN.out] at hl
    have HB1 := Lib.hid hb1
    clear haw hb1
    go_wp2_with fail
    refine hl.mono ?_
    rintro e w2 ⟨⟨b, c, r, G, m, y, hd, p1, p2, l, rfl, hL⟩, hb2⟩
    have hver := laid_ver hL HB.out.le (by rw [← HN.out]; exact hin.2)
    have hlen := hL.len
    rw [← HN.out] at hlen
    obtain ⟨i, hi⟩ : ∃ i : Nat, (i : Int) = (a8 : Int) % (n : Int) := ⟨a8 % n, by omega⟩
    have hin2 : i < n := by have := Int.emod_lt_of_pos (a8 : Int) (b := (n : Int)) (by omega); omega
    obtain ⟨x, hx⟩ : ∃ x, l[i]? = some x := ⟨_, List.getElem?_eq_getElem (by omega)⟩
    obtain ⟨w3, hw3⟩ : ∃ W, W = w2.alloc (.cells (Yd.row b y).toArray 29) := ⟨_, rfl⟩
    obtain ⟨w4, hw4⟩ : ∃ W, W = w3.alloc (.cells #[.int .i64 (i : Int)] 3) := ⟨_, rfl⟩
    have hb3 : Below w2.heap.size w2 w3 := by rw [hw3]; exact (Below.refl _ _).alloc (Nat.le_refl _) _
    have hb4 : Below w3.heap.size w3 w4 := by rw [hw4]; exact (Below.refl _ _).alloc (Nat.le_refl _) _
    have hz3 : w3.heap.size = w2.heap.size + 1 := by rw [hw3]; simp
    have hz4 : w4.heap.size = w3.heap.size + 1 := by rw [hw4]; simp
    have hy3 : SVar w3 w2.heap.size (Yd.row b y) := by rw [hw3]; exact snew _ _ _
    have hy4 := hy3.later hb4
    have hi4 : SVar w4 w3.heap.size [.int .i64 (i : Int)] := by rw [hw4]; exact snew _ _ _
    have hE4 := (hL.has.later hb3).later hb4
    obtain ⟨g1, g2, g3⟩ := hL.has.lt
    have hcnt := hL.ym.cnt
    have hdo := do_any w4 b 23 #[.pointer (some ⟨w2.heap.size, 0, none⟩), .pointer (some ⟨w3.heap.size, 0, none⟩)] _ ent_23 (fells1_any hE4 (by omega) hx hL.ym.ch (by omega) (ym_flat hL.ym).2.1 hL.hs hy4 ⟨by omega, by simp only [List.mem_cons, List.not_mem_nil, or_false]; omega⟩ (hi4.cell (i := 0) rfl) ⟨by omega, by simp only [List.mem_cons, List.not_mem_nil, or_false]; omega⟩)
    have hhn := hL.hs.n
    rw [ints_length, List.length_map, hlen] at hhn
    have c0 := hy4.cell (i := 0) rfl
    have c6 := hy3.cell (i := 6) rfl
    rw [hhn] at c6
    have HL := Lib.hid (⟨hL, hver, hlen, hin2⟩ : _ ∧ _ ∧ _ ∧ _)
    have HK := Lib.hid (⟨hE4, hy4, hi4, hz3, hz4, g1, g2, g3⟩ : _ ∧ _ ∧ _ ∧ _ ∧ _ ∧ _ ∧ _ ∧ _)
    simp only [Yd.row] at hw3
    unfold Yd.v
    have HW3 := Lib.hid hw3.symm
    rw [hi] at hw4
    have HW4 := Lib.hid hw4.symm
    have HI := Lib.hid hi
    have i3 : (0 : Int) < (n : Int) := by omega
    have i4 : ¬ ((n : Int) = 0) := by omega
    clear hl hL hb2 hb3 hb4 hE4 hy3 hy4 hi4 g1 g2 g3 hw3 hw4 hver hlen hcnt hhn hx hz3 hz4 hi hin2
    go_wp2_with (first | rw [HW3.out] | rw [HW4.out] | fail)
    refine hdo.mono ?_
    rintro e w5 ⟨u, rfl, rfl, G2, m2, hbn, hE5, hgr, hF⟩
    obtain ⟨hL, hver, hlen, hin2⟩ := HL.out
    obtain ⟨hE4, hy4, hi4, hz3, hz4, g1, g2, g3⟩ := HK.out
    have hy5 : SVar w5 w2.heap.size (Yd.row b y) := hy4.same hbn.size (hbn.block _ (by omega) (by simp only [List.mem_cons, List.not_mem_nil, or_false]; omega))
    have hi5 : SVar w5 w3.heap.size [.int .i64 (i : Int)] := hi4.same hbn.size (hbn.block _ (by omega) (by simp only [List.mem_cons, List.not_mem_nil, or_false]; omega))
    have g0' := hy5.cell (i := 0) rfl
    have g1' := hy5.cell (i := 1) rfl
    have g2' := hy5.cell (i := 2) rfl
    have g3' := hy5.cell (i := 3) rfl
    have g4' := hy5.cell (i := 4) rfl
    have g5' := hy5.cell (i := 5) rfl
    have g6' := hy5.cell (i := 6) rfl
    have ci := hi5.cell (i := 0) rfl
    have hi9 : (i : Int) ≤ 40 := by omega
    have hfit := fits_behind hL hE5 hgr.1 hF (by omega) (by omega) (by omega) hver
    rw [show ((i + 1 : Nat) : Int) = (i : Int) + 1 by push_cast; rfl] at hfit
    have HE : Hid (∀ W, ButN [b, c, r] w5.heap.size w5 W → Below w.heap.size w W) := fun W hW => HB1.out.trans ((hE5.butBelow hW).mono HB1.out.size)
    unfold Yd.v at hfit
    clear hdo hbn hE5 hgr hF hL hver hlen hin2 hE4 hy4 hi4 hz3 hz4 g1 g2 g3 hy5 hi5 c0 c6
    go_wp2_with fail
    refine hfit.mono ?_
    rintro e w6 ⟨rfl, hb6⟩
    have HE2 := Lib.hid (HE.out w6 hb6)
    clear hfit hb6 HE
    go_wp2_with fail
    go_ret
    exact ⟨rfl, HE2.out⟩
  · have haw2 := awake_any w1 (HT.out.below hb1)
    have HF : Hid (∀ w4, Below w1.heap.size w1 w4 → Below w.heap.size w w4) := fun w4 h4 => hb1.trans (h4.mono hb1.size)
    clear haw hb1
    by_cases hn1 : 1 ≤ n
    · have i1 : ¬ ((n : Int) < 1) := by omega
      have i2 : (40 : Int) < (n : Int) := by omega
      go_wp2_with fail
      refine haw2.mono ?_
      rintro e w4 ⟨rfl, hb⟩
      have HE := Lib.hid (HF.out w4 hb)
      clear haw2 hb HF
      go_wp2
      go_ret
      exact ⟨rfl, HE.out⟩
    · have i1 : (n : Int) < 1 := by omega
      go_wp2_with fail
      refine haw2.mono ?_
      rintro e w4 ⟨rfl, hb⟩
      have HE := Lib.hid (HF.out w4 hb)
      clear haw2 hb HF
      go_wp2
      go_ret
      exact ⟨rfl, HE.out⟩
theorem fellsLaw (a0 : Option Addr) (l0 : List Int) (cap0 : Nat) {W : World} (h0 : BysI W a0 l0) (v : Int) (hv : (Lit.int .u8 v).wf = true) (_W : World) (hT : TabAt W) :
    Calls Tryd.prog 5 #[.slice a0 l0.length cap0, .int .u8 v] W fun e w' => e = .returned (.bool true) ∧ Below W.heap.size W w' := by
  simp [Lit.wf, IntKind.min, IntKind.max, IntKind.signed, IntKind.bits] at hv
  obtain ⟨n, rfl⟩ : ∃ n : Nat, v = (n : Int) := ⟨v.toNat, by omega⟩
  obtain ⟨bs, e, hb⟩ := h0.nat
  rw [← e]
  exact fells_law W hT a0 cap0 bs hb n (by omega)
end Go.Proofs.YtbcpdkmbbgcfbaaDoor
