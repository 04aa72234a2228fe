/- What the law's left comes to, in Do: the versions of a chain, as Newest, Word and Take tell them. Condition: the library's table stands. -/
import Derived.Test.YtbcpdkmbbgcfbaaDoorCy
namespace Go.Proofs.YtbcpdkmbbgcfbaaDoor
open Go.RowKit Go.Op
set_option maxRecDepth 100000

theorem Ch.drop {m : M} : ∀ {l : List (Int × Rv × Int)} {h : Int} (i : Nat), Ch m h l → ∃ h', Ch m h' (l.drop i) ∧ (i < l.length → ∃ x, l[i]? = some x ∧ h' = x.1 ∧ x.1 ≠ 0 ∧ m.look x.1 = some (.blk (.age x.2.1 x.2.2) .nil)) ∧ (∀ j x, i = j + 1 → l[j]? = some x → m.look x.2.2 = some (.word h')) ∧ (l.length ≤ i → h' = 0)
  | [], h, i, hc => ⟨0, by rw [List.drop_nil]; rfl, fun hi => by simp at hi, fun j x _ hx => by simp at hx, fun _ => rfl⟩
  | x :: l, h, 0, hc => ⟨h, hc, fun _ => ⟨x, rfl, hc.1, by rw [← hc.1]; exact hc.2.1, by rw [← hc.1]; exact hc.2.2.1⟩, fun j y hj => by omega, fun hi => by simp at hi⟩
  | x :: l, h, 1, hc => by
    obtain ⟨e, h0, h1, k, h2, h3⟩ := hc
    obtain ⟨h', q1, q2, q3, q4⟩ := Ch.drop 0 h3
    refine ⟨k, h3, fun hi => ?_, fun j y hj hy => ?_, fun hi => ?_⟩
    · cases l with
      | nil => simp at hi
      | cons z l => exact ⟨z, rfl, h3.1, by rw [← h3.1]; exact h3.2.1, by rw [← h3.1]; exact h3.2.2.1⟩
    · obtain rfl : j = 0 := by omega
      simp at hy
      subst hy
      exact h2
    · cases l with
      | nil => exact h3
      | cons z l => simp at hi
  | x :: l, h, i + 2, hc => by
    obtain ⟨e, h0, h1, k, h2, h3⟩ := hc
    obtain ⟨h', q1, q2, q3, q4⟩ := Ch.drop (i + 1) h3
    refine ⟨h', q1, fun hi => ?_, fun j y hj hy => ?_, fun hi => q4 (by simp only [List.length_cons] at hi; omega)⟩
    · obtain ⟨z, z1, z2⟩ := q2 (by simp only [List.length_cons] at hi; omega)
      exact ⟨z, by simpa using z1, z2⟩
    · cases j with
      | zero => omega
      | succ j => exact q3 j y (by omega) (by simpa using hy)
section
variable {w0 w : World} {b c r : Nat} {G : List (Nat × List Value)} {zy zo zr : Nat} {m : M}
theorem run_extract_at {P : Program} {vs : Array Value} {k : Nat} {u : Value} (hk : vs[k]? = some u) (w : World) : (Instr.extract (.tuple vs) k).run P w = .ok u w := by
  simp [Instr.extract, hk]
def partOf (v : Value) (k : Nat) : Value := match v with
  | .tuple vs => vs.getD k undef
  | _ => undef
/-- A part of a tuple, by its run. -/
theorem extract_run {P : Program} {w : World} {ops : Array Oper} {rest : List Oper} {o : Oper} {a : Act} {Q : Exit → Act → World → Prop} (hgd : o.guard = none) (x : Operand) (k : Nat)
    (ho : o.op = .extract x k) (hx : ∃ vs, a.eval x = .tuple vs ∧ k < vs.size) (h : wpList P ops Q rest (a.put o.dst (partOf (a.eval x) k)) w) : wpList P ops Q (o :: rest) a w := by
  refine wpList_plain hgd fun K hK => ?_
  obtain ⟨vs, e, hk⟩ := hx
  have hk2 : vs[k]? = some (vs.getD k undef) := by simp [hk]
  rw [e] at h
  unfold Oper.wp execOp
  simp only [ho, e, Sem.run_bind, Sem.run_pure, Result.andThen_ok, run_extract_at hk2]
  exact hK _ _ h
@[local go_sem] theorem partOf_tuple (vs : Array Value) (k : Nat) : partOf (.tuple vs) k = vs.getD k undef := rfl
/-- More is appended, in the midst of Do. -/
theorem ORow.appD {pb : Nat} {Z : List Nat} {t1 : Value} {G1 : List (Nat × List Value)} {W : World} {m1 : M} {s1 : Pt} {v : Value} {l : List Int} (h : ORow w0 b c r pb t1 G1 W v l) (hs : Dgo w0 b c r pb Z w t1 G G1 W m1 s1) (hv : ∀ z, v.ownBlock = some z → w.heap.size ≤ z) (ad : Addr) (cap : Nat) (k : List Int) (hk : ∀ j u, (ints k)[j]? = some u → W.cell? (ad.add j) = some u) (hl : l.length + k.length ≤ 1000000) (ty : TypeId) :
    ∃ v' w2, (Builtin.append_ #[25, 25] ty #[v, .slice (some ad) k.length cap]).run Tryd.prog W = .ok v' w2 ∧ Dgo w0 b c r pb Z w t1 G G1 w2 m1 s1 ∧ ORow w0 b c r pb t1 G1 w2 v' (l ++ k) ∧ (∀ z, v'.ownBlock = some z → v.ownBlock = some z ∨ z = W.heap.size) ∧ W.heap.size ≤ w2.heap.size ∧ ∀ z, z < W.heap.size → v.ownBlock ≠ some z → w2.heap[z]? = W.heap[z]? := by
  obtain ⟨i0, hi, hz0, hz1, hz2⟩ := info_parts info3
  obtain ⟨m0, s0, q1, q2⟩ := id hs.sys
  have hB := q1.has.below.size
  obtain ⟨v', w', hr, ho, hg, _, hn⟩ := run_append_own_at W w0.heap.size 25 ty 3 i0 _ 1 8 Tryd.underlying25 hi hz0 hz1 hz2 rfl (by decide) v _ _ h.own ad k.length cap (ints k) (by rw [ints_length]; omega) hk (ints_one k) (by unfold maxLen; omega) (by omega) hB
  have hsz := hg.size
  have hA : Dgo w0 b c r pb Z w t1 G G1 w' m1 s1 := by
    cases hvb : v.ownBlock with
    | none => exact hs.later ⟨hg.os, hg.tape, hg.output, hg.size, fun k hk => hg.block k hk (by rw [hvb]; intro e; cases e)⟩
    | some z => exact hs.aside (z := z) ⟨hg.os, hg.tape, hg.output, hg.size, fun k hk hz => hg.block k hk (by rw [hvb]; intro e; cases e; exact hz rfl)⟩ (h.loc z hvb) (.inr (hv z hvb))
  refine ⟨v', w', hr, hA, ⟨?_, fun g e => ?_⟩, fun z e => ?_, hsz, fun z hz hne => hg.block z hz (fun e => hne e.symm)⟩
  · have := ho
    rw [show ints l ++ ints k = ints (l ++ k) by simp [ints]] at this
    rw [List.length_append]; exact this
  · rcases hn with e2 | e2
    · exact (h.loc g (e2 ▸ e)).same hsz
    · rw [e2] at e
      cases e
      have o := q1.has.at_.own
      have h2 := q1.pt.lt
      have h3 := o.lb
      have h4 := o.lc
      have h5 := o.lr
      exact ⟨(World.ownsRow.lt ho _ e2).2, hB, ⟨by omega, by omega, by omega, by omega⟩, fun e => by
        have := (World.ownsRow.lt q1.pt.own _ e).2
        omega, fun x hx e => by
        have := (q1.rows x.1 x.2 hx).1.lt
        omega⟩
  · rcases hn with e2 | e2
    · exact .inl (e2 ▸ e)
    · rw [e2] at e
      cases e
      exact .inr rfl
/-- Within left's loop. -/
def LfX (w0 : World) (b c r : Nat) (G : List (Nat × List Value)) (w : World) (zo zr : Nat) (m : M) (l : List (Int × Rv × Int)) (i : Nat) (za : Nat) (h : Int) (W : World) : Prop :=
  ∃ (t1 : Value) (G1 : List (Nat × List Value)) (m1 : M) (a1 : Option Addr) (c1 : Nat) (ag : Ag) (q : Pl), Dgo w0 b c r w.heap.size [b, c, r, zo, zr] w t1 G G1 W m1 (ptDo w b) ∧ AskN m m1 (200 + 3 * (i : Int)) ∧ SVar W zo [.bool true] ∧ SVar W zr [.slice a1 i c1] ∧ ORow w0 b c r w.heap.size t1 G1 W (.slice a1 i c1) ((l.take i).map fun x => x.2.1.ver) ∧ (∀ y, (Value.slice a1 i c1).ownBlock = some y → w.heap.size ≤ y ∧ y ≠ za) ∧
    SVar W za (ag.row q) ∧ Loc w0 b c r w.heap.size t1 G1 W za ∧ w.heap.size ≤ za ∧ (∀ x, l[i]? = some x → h = x.1 ∧ ag = ⟨x.2.1, x.2.2⟩) ∧ (l.length ≤ i → h = 0)
/-- Behind left's call of Do. -/
def LfQ (w0 : World) (b c r : Nat) (G : List (Nat × List Value)) (w : World) (zo zr : Nat) (m : M) (l : List (Int × Rv × Int)) (W : World) : Prop :=
  ∃ (G2 : List (Nat × List Value)) (m2 : M) (sl : Sl), ButN [b, c, r, zo, zr] w.heap.size w W ∧ HasE w0 b c r G2 W m2 ∧ Grow w G G2 ∧ AskN m m2 400 ∧ SVar W zo [.bool true] ∧ SVar W zr [.slice sl.a sl.n sl.cap] ∧ sl.In G2 (ints (l.map fun x => x.2.1.ver))
set_option maxHeartbeats 4000000 in
theorem left1_any (h : HasE w0 b c r G w m) (hcm : m.count ≤ 100000) {y : Yd} {hd p1 p2 : Int} {x0 : Int × Rv × Int} {l' : List (Int × Rv × Int)} (hw : m.look hd = some (.word x0.1)) (hc : Ch m x0.1 (x0 :: l')) (hlen : (x0 :: l').length ≤ 40) (hver : ∀ x, x ∈ x0 :: l' → x.2.1.ver ≤ 1000000) (hn : y.n = ⟨⟨#[107]⟩, hd, [p1, p2]⟩)
    {chv : List Int} (hch : y.ch.In G (ints chv)) (hcl : (x0 :: l').length ≤ chv.length) (hcl2 : chv.length ≤ 1000)
    (hy : SVar w zy (Yd.row b y)) (hzy : zy < w.heap.size ∧ zy ∉ [b, c, r, zo, zr]) (ho : ∃ u, SVar w zo [.bool u]) (lo : LocM w0 b c r G w zo) (hr : SVar w zr [.slice none 0 0]) (lr : LocM w0 b c r G w zr) (hne : zo ≠ zr) :
    Calls Tryd.prog 67 (#[.pointer (some ⟨w.heap.size, 0, none⟩)] ++ #[.pointer (some ⟨zy, 0, none⟩), .pointer (some ⟨zo, 0, none⟩), .pointer (some ⟨zr, 0, none⟩)]) (w.alloc (portObj b)) fun e w' => ∃ u, e = .returned u ∧ u = .nilIface ∧ LfQ w0 b c r G w zo zr m (x0 :: l') w' := by
  have hD := Dgo.start h (Z := [b, c, r, zo, zr]) ⟨by simp, by simp, by simp⟩
  have hbp := (Below.refl w.heap.size w).alloc (Nat.le_refl _) (portObj b)
  obtain ⟨m1, e1, a1⟩ := up_go (v := 9223372036854775807) (n := 40) hw hc (by simp) hlen
  have hf : foundS 9223372036854775807 (x0 :: l') = (⟨x0.1, ⟨x0.2.1, x0.2.2⟩⟩, 0) := by
    rw [foundS, if_pos (by have := hver x0 List.mem_cons_self; omega)]
  rw [hf] at e1
  obtain ⟨H, nd, pn, ch, hs⟩ := y
  simp only at *
  subst hn
  have hne1 : ((newestP 40 hd).run (ptDo w b) m).1 ≠ some none := by rw [newestP, (ptDo_quiet w b).run, e1]; simp
  have h1 := Newest_E hD.sys 40 (by omega) ⟨⟨#[107]⟩, hd, [p1, p2]⟩ ⟨pn, .nil, .nil, .nil⟩ hne1
  have hyD : ∀ (t1 : Value) (G1 : List (Nat × List Value)) (w1 : World) (m1 : M) (s1 : Pt) (hd' : Dgo w0 b c r w.heap.size [b, c, r, zo, zr] w t1 G G1 w1 m1 s1), SVar w1 zy (Yd.row b ⟨H, ⟨⟨#[107]⟩, hd, [p1, p2]⟩, pn, ch, hs⟩) := fun _ _ _ _ _ hd' => hy.same hd'.but.size (hd'.but.block zy hzy.1 hzy.2)
  have sy0 := hyD _ _ _ _ _ hD
  have hld := load_mid (z := zy) (o := 2) (ty := 27) (sub := [.string ⟨#[107]⟩, .int .i64 hd, .slice pn.a pn.n pn.cap]) (sy0.mid 2 _ (fun j v hj => by
    match j, hj with
    | 0, hj => exact hj
    | 1, hj => exact hj
    | 2, hj => exact hj
    | j + 3, hj => simp at hj)) sh27
  obtain ⟨u0, so0⟩ := ho
  have HD := Lib.hid hD
  have HY := Lib.hid hyD
  have HE := Lib.hid e1
  have HC := Lib.hid (⟨hc, hlen, hcl, hcl2, hcm, a1⟩ : _ ∧ _ ∧ _ ∧ _ ∧ _ ∧ _)
  have HL := Lib.hid (⟨lo, lr⟩ : _ ∧ _)
  have HS := Lib.hid (⟨so0.later hbp, hr.later hbp⟩ : _ ∧ _)
  have hchn : ch.n = chv.length := by rw [← ints_length]; exact hch.n
  unfold Nd.v at h1
  simp only at h1
  show Calls Tryd.prog 67 #[.pointer (some ⟨w.heap.size, 0, none⟩), .pointer (some ⟨zy, 0, none⟩), .pointer (some ⟨zo, 0, none⟩), .pointer (some ⟨zr, 0, none⟩)] (w.alloc (portObj b)) _
  clear h hw hc hlen hver hch hcl hcl2 hy hzy lo hr lr hD hbp e1 a1 hf hne1 sy0 so0 hyD hcm
  generalize hwp : w.alloc (portObj b) = wp at *
  go_enter Tryd.func67, Tryd.ntmps67
  go_wp2_with (first | ((with_reducible refine load_run ?_ (.tmp 13) 27 ?_ ?_ hld ?_); exact rfl; exact rfl; exact rfl) | fail)
  refine h1.mono ?_
  rintro e w1 hE
  obtain ⟨t1, G1, u, rfl, ⟨x, q, hx, hin, rfl⟩, ha⟩ := hE.done (ptDo_quiet w b)
  unfold newestP at hx ha
  rw [HE.out] at hx ha
  cases hx
  simp only at hin ha ⊢
  have hD1 := HD.out.aft ha
  obtain ⟨so, sr⟩ := HS.out
  have so1 := (ha.svar (HL.out.1.loc HD.out) so).1
  have sr1 := (ha.svar (HL.out.2.loc HD.out) sr).1
  obtain ⟨w2, hw2⟩ : ∃ W, W = w1.alloc (.cells ((⟨x0.2.1, x0.2.2⟩ : Ag).row q).toArray 42) := ⟨_, rfl⟩
  have b2 : Below w1.heap.size w1 w2 := by rw [hw2]; exact (Below.refl _ w1).alloc (Nat.le_refl _) _
  have sa : SVar w2 w1.heap.size ((⟨x0.2.1, x0.2.2⟩ : Ag).row q) := by rw [hw2]; exact snew _ _ _
  have hD2 := hD1.later b2
  have la2 : Loc w0 b c r w.heap.size t1 G1 w2 w1.heap.size := by rw [hw2]; exact hD1.sys.fresh _
  have so2 := so1.later b2
  have sr2 := sr1.later b2
  have b3 : But zo w2 (w2.setCell ⟨zo, 0, none⟩ (.bool true)) := (But.refl _ _).set _ _
  have lo2 := HL.out.1.loc hD2
  have lr2 := HL.out.2.loc hD2
  have hlo := HL.out.1.lt
  have hw1 := hD1.but.size
  have hD3 := hD2.aside b3 lo2 (.inl (by simp))
  have HX0 : Hid (LfX w0 b c r G w zo zr m (x0 :: l') 0 w1.heap.size x0.1 (w2.setCell ⟨zo, 0, none⟩ (.bool true))) := by
    refine ⟨t1, G1, m1, none, 0, ⟨x0.2.1, x0.2.2⟩, q, hD3, (HC.out.2.2.2.2.2).le (by have := HC.out.2.1; omega), so2.set (i := 0) (by simp) _, sr2.same b3.size (b3.block _ sr2.lt hne.symm), ORow.nil _, fun y e => (by cases e), sa.same b3.size (b3.block _ sa.lt (by omega)), la2.same b3.size, hw1, fun x hx => ?_, fun hi => by simp at hi⟩
    simp at hx
    subst hx
    exact ⟨rfl, rfl⟩
  have co := so2.cell (i := 0) rfl
  have fo := so2.fz
  have HW2 := Lib.hid hw2.symm
  unfold Ag.v
  simp only [Ag.row] at HW2
  obtain ⟨za, hza⟩ : ∃ za, za = w1.heap.size := ⟨_, rfl⟩
  have HZa := Lib.hid hza.symm
  rw [← hza] at HX0
  clear h1 hE hin ha hD1 so sr so1 sr1 hw2 b2 sa hD2 la2 so2 sr2 b3 lo2 lr2 hlo hw1 hD3 hld hza
  go_wp2_with (first | rw [HW2.out] | fail)
  rw [HZa.out]
  obtain ⟨n, hnn⟩ : ∃ n, n = (x0 :: l').length := ⟨_, rfl⟩
  have HN := Lib.hid hnn
  clear hnn co fo
  go_loopw [6, 9, 10] (fun hv iv ev wr => ∃ (i : Nat) (h : Int), hv = .int .i64 h ∧ iv = .int .i64 (i : Int) ∧ i ≤ n ∧ Hid (LfX w0 b c r G w zo zr m (x0 :: l') i za h wr)) (fun _ iv _ _ => n + 1 - (intOf iv).toNat)
  case atStart => exact ⟨0, x0.1, rfl, rfl, Nat.zero_le _, HX0⟩
  case round =>
    obtain ⟨i, h, rfl, rfl, hi, hX⟩ := hrel
    obtain ⟨t1, G1, m1', a1, c1, ag, q1, hD, hak, so, sr, r1, o1, sa, la, hwa, hix, hin0⟩ := hX.out
    have co := so.cell (i := 0) rfl
    have cr := sr.cell (i := 0) rfl
    have fr := sr.fz
    have fo := so.fz
    have c5 := (HY.out _ _ _ _ _ hD).cell (i := 5) rfl
    simp only at c5
    rw [hchn] at c5
    obtain ⟨hc, hlen, hcl, hcl2, hcm, -⟩ := HC.out
    rw [← HN.out] at hlen hcl
    have hle : (i : Int) ≤ (chv.length : Int) := by omega
    clear HX0
    by_cases hlt : i < n
    · obtain ⟨x, hx⟩ : ∃ x, (x0 :: l')[i]? = some x := ⟨_, List.getElem?_eq_getElem (by rw [← HN.out]; exact hlt)⟩
      obtain ⟨rfl, rfl⟩ := hix x hx
      obtain ⟨h2, -, hn2, hw2, hz2⟩ := hc.drop (i + 1)
      have hword := (hak.look x.2.2).trans (hw2 i x rfl hx)
      have hxz : ¬ x.1 = 0 := hc.nz x (List.mem_of_getElem? hx)
      obtain ⟨wa, hwa2⟩ : ∃ W, W = wr.alloc (.cells #[.int .i64 x.2.1.ver] 3) := ⟨_, rfl⟩
      have ba : Below wr.heap.size wr wa := by rw [hwa2]; exact (Below.refl _ wr).alloc (Nat.le_refl _) _
      have hza2 : wa.heap.size = wr.heap.size + 1 := by rw [hwa2]; simp
      have snw : SVar wa wr.heap.size [.int .i64 x.2.1.ver] := by rw [hwa2]; exact snew wr [.int .i64 x.2.1.ver] 3
      have hDa := hD.later ba
      have htl : (((x0 :: l').take i).map fun x => x.2.1.ver).length = i := by rw [List.length_map, List.length_take, ← HN.out]; omega
      have happ := fun ty => (r1.later ba).appD hDa (fun z hz => (o1 z hz).1) ⟨wr.heap.size, 0, none⟩ 1 [x.2.1.ver] (fun j u hj => by rw [add_off, Nat.zero_add]; exact snw.cell hj) (by rw [htl]; simp; omega) ty
      obtain ⟨L2, hL2⟩ : ∃ L2, L2 = (((x0 :: l').take i).map fun x => x.2.1.ver) ++ [x.2.1.ver] := ⟨_, rfl⟩
      have hl2 : L2.length = i + 1 := by rw [hL2, List.length_append, htl]; rfl
      have hL3 : L2 = ((x0 :: l').take (i + 1)).map fun x => x.2.1.ver := by rw [hL2, List.take_add_one, hx]; simp
      have happ2 : ∀ ty, ∃ u w2, (Builtin.append_ #[25, 25] ty #[.slice a1 i c1, .slice (some ⟨wr.heap.size, 0, none⟩) 1 1]).run Tryd.prog wa = .ok u w2 ∧ Hid (Dgo w0 b c r w.heap.size [b, c, r, zo, zr] w t1 G G1 w2 m1' (ptDo w b) ∧ ORow w0 b c r w.heap.size t1 G1 w2 u L2 ∧ (∀ z, u.ownBlock = some z → (Value.slice a1 i c1).ownBlock = some z ∨ z = wa.heap.size) ∧ wa.heap.size ≤ w2.heap.size ∧ ∀ z, z < wa.heap.size → (Value.slice a1 i c1).ownBlock ≠ some z → w2.heap[z]? = wa.heap[z]?) := fun ty => by
        obtain ⟨u, w2, q1, q2⟩ := happ ty
        rw [← hL2] at q2
        exact ⟨u, w2, q1, q2⟩
      have HAp := Lib.hid happ2
      have hDa_size : Hid (w.heap.size ≤ wa.heap.size) := hDa.but.size
      have HWa := Lib.hid hwa2.symm
      have cag := sa.cell (i := 0) rfl
      simp only at cag
      have hzaw := sa.lt
      have hzrw := sr.lt
      have HS1 := Lib.hid (⟨so.later ba, sr.later ba, sa.later ba, la.same ba.size, hak, o1, hwa, htl, hza2, hzaw⟩ : _ ∧ _ ∧ _ ∧ _ ∧ _ ∧ _ ∧ _ ∧ _ ∧ _ ∧ _)
      have HL2 := Lib.hid (⟨hl2, hL3⟩ : _ ∧ _)
      have HI := Lib.hid (⟨hx, hn2, hz2, hword⟩ : _ ∧ _ ∧ _ ∧ _)
      clear hX hD hak so sr r1 o1 sa la hwa hix hin0 hc hn2 hw2 hz2 hword hx snw hDa htl happ happ2 hl2 hL2 hL3 hwa2 hza2 ba
      go_wp2_with (first | rw [HWa.out] | ((with_reducible refine append_run2 ?_ (.tmp 35) (.tmp 39) 25 ?_ ?_ ?_ HAp.out ?_); exact rfl; exact rfl; exact rfl; exact rfl) | fail)
      rintro u w2 hApp
      obtain ⟨hD2, r2, o2, hs2, hk2⟩ := hApp.out
      obtain ⟨so, sr, sa, la, hak, o1, hwa, htl, hza2, hzaw⟩ := HS1.out
      obtain ⟨a2, c2, rfl, -, -, -⟩ := r2.val
      rw [HL2.out.1] at r2 o2 ⊢
      have hlo := HL.out.1.lt
      have hlr := HL.out.2.lt
      have hkz : ∀ z, z < wa.heap.size → (∀ y, (Value.slice a1 i c1).ownBlock = some y → y ≠ z) → w2.heap[z]? = wa.heap[z]? := fun z hz hy => hk2 z hz (fun e => hy z e rfl)
      have sr2 := sr.same hs2 (hkz zr sr.lt (fun y hy => by have := (o1 y hy).1; omega))
      have so2 := so.same hs2 (hkz zo so.lt (fun y hy => by have := (o1 y hy).1; omega))
      have sa2 := sa.same hs2 (hkz za sa.lt (fun y hy => (o1 y hy).2))
      have la2 := la.same hs2
      have b3 : But zr w2 (w2.setCell ⟨zr, 0, none⟩ (.slice a2 (i + 1) c2)) := (But.refl _ _).set _ _
      have hD3 := hD2.aside b3 (HL.out.2.loc hD2) (.inl (by simp))
      have sr3 : SVar (w2.setCell ⟨zr, 0, none⟩ (.slice a2 (i + 1) c2)) zr [.slice a2 (i + 1) c2] := sr2.set (i := 0) (by simp) _
      have so3 := so2.same b3.size (b3.block _ so2.lt hne)
      have sa3 := sa2.same b3.size (b3.block _ sa2.lt (by omega))
      have la3 := la2.same b3.size
      have o3 : ∀ y, (Value.slice a2 (i + 1) c2).ownBlock = some y → w.heap.size ≤ y ∧ y ≠ za := fun y hy => by
        rcases o2 y hy with e | e
        · exact o1 y e
        · have := hDa_size.out
          omega
      have r3 := r2.same (t1 := t1) (G1 := G1) (w1 := w2.setCell ⟨zr, 0, none⟩ (.slice a2 (i + 1) c2)) fun y e => ⟨(r2.loc y e).same b3.size, b3.block y (r2.loc y e).lt (by have := (o3 y e).1; omega)⟩
      obtain ⟨hx, hn2, hz2, hword⟩ := HI.out
      have hl := eword2 hD3.sys (by have := hak.cnt; have := HC.out.2.2.2.2.1; omega) x.2.2
      have hwg := wordA_go hword
      have crz := sr2.cell (i := 0) rfl
      have frz := sr2.fz
      have cpv := sa3.cell (i := 10) rfl
      have cpv2 := sa2.cell (i := 10) rfl
      simp only at cpv cpv2
      have hak4 : AskN m m1'.ask (200 + 3 * (i : Int) + 1) := hak.trans (AskN.ask m1')
      have HS3 := Lib.hid (⟨so3, sr3, sa3, la3, HL.out.1.loc hD3, HL.out.2.loc hD3, r3⟩ : _ ∧ _ ∧ _ ∧ _ ∧ _ ∧ _ ∧ _)
      have HD3 := Lib.hid hD3
      have HO3 := Lib.hid (⟨o3, hwa, hlo, hlr, hak4⟩ : _ ∧ _ ∧ _ ∧ _ ∧ _)
      have hnezr : ¬ za = zr := by omega
      clear hApp hD2 r2 o2 hs2 hk2 so sr sa la hak o1 hwa htl hza2 hzaw hlo hlr hkz sr2 so2 sa2 la2 b3 hD3 sr3 so3 sa3 la3 o3 r3 hx hn2 hz2 hword co fo cr c5 cag hak4
      go_wp2_with fail
      refine hl.mono ?_
      rintro e w4 hE
      obtain ⟨t2, G2, u, rfl, hu, ha⟩ := hE.done (ptDo_quiet w b)
      rw [hwg] at hu ha
      replace hu : u = .tuple #[.int .i64 h2, .int .i64 0] := hu
      subst hu
      simp only at ha
      obtain ⟨so, sr, sa, la, lo, lr, r3⟩ := HS3.out
      obtain ⟨o3, hwa, hlo, hlr, hak4⟩ := HO3.out
      obtain ⟨hx, hn2, hz2, -⟩ := HI.out
      have hD4 := HD3.out.aft ha
      obtain ⟨so4, lo4⟩ := ha.svar lo so
      obtain ⟨sr4, lr4⟩ := ha.svar lr sr
      obtain ⟨sa4, la4⟩ := ha.svar la sa
      have r4 := r3.aft ha
      have b5 : But zo w4 (w4.setCell ⟨zo, 0, none⟩ (.bool true)) := (But.refl _ _).set _ _
      have hD5 := hD4.aside b5 lo4 (.inl (by simp))
      have so5 : SVar (w4.setCell ⟨zo, 0, none⟩ (.bool true)) zo [.bool true] := so4.set (i := 0) (by simp) _
      have sr5 := sr4.same b5.size (b5.block _ sr4.lt hne.symm)
      have sa5 := sa4.same b5.size (b5.block _ sa4.lt (by omega))
      have la5 := la4.same b5.size
      have r5 := r4.same (t1 := t2) (G1 := G2) (w1 := w4.setCell ⟨zo, 0, none⟩ (.bool true)) fun y e => ⟨(r4.loc y e).same b5.size, b5.block y (r4.loc y e).lt (by have := (o3 y e).1; omega)⟩
      have co := so4.cell (i := 0) rfl
      have fo := so4.fz
      rw [HL2.out.2] at r5
      by_cases h20 : h2 = 0
      · have hX2 : Hid (LfX w0 b c r G w zo zr m (x0 :: l') (i + 1) za h2 (w4.setCell ⟨zo, 0, none⟩ (.bool true))) := by
          refine ⟨t2, G2, m1'.ask, a2, c2, ⟨x.2.1, x.2.2⟩, q1, hD5, hak4.le (by omega), so5, sr5, r5, o3, sa5, la5, hwa, fun y hy => ?_, fun _ => h20⟩
          obtain ⟨z, z1, z2, z3, -⟩ := hn2 (List.getElem?_eq_some_iff.1 hy).1
          exact absurd (z2 ▸ h20) z3
        subst h20
        clear hl hE ha so sr sa la lo lr r3 o3 hwa hlo hlr hak4 hx hn2 hz2 hD4 so4 lo4 sr4 lr4 sa4 la4 r4 b5 hD5 so5 sr5 sa5 la5 r5 hwg crz frz cpv cpv2
        go_wp2_with fail
        exact ⟨⟨i + 1, 0, rfl, rfl, by omega, hX2⟩, by simp only [intOf]; omega⟩
      · have hi1 : i + 1 < (x0 :: l').length := by
          apply Classical.byContradiction
          intro hge
          exact h20 (hz2 (by omega))
        obtain ⟨x', z1, z2, z3, z4⟩ := hn2 hi1
        subst z2
        have htk := Take_E hD5.sys (by have := hak4.cnt; have := HC.out.2.2.2.2.1; have := HN.out; show m1'.ask.count ≤ 900000; omega) x'.1
        have htg := takeA_go ((hak4.look x'.1).trans z4)
        have HS5 := Lib.hid (⟨so5, sr5, sa5, la5, HL.out.1.loc hD5, HL.out.2.loc hD5, r5⟩ : _ ∧ _ ∧ _ ∧ _ ∧ _ ∧ _ ∧ _)
        have HD5 := Lib.hid hD5
        have HI5 := Lib.hid (⟨z1, hi1⟩ : _ ∧ _)
        clear hl hE ha so sr sa la lo lr r3 o3 hwa hlo hlr hak4 hx hn2 hz2 hD4 so4 lo4 sr4 lr4 sa4 la4 r4 b5 hD5 so5 sr5 sa5 la5 r5 hwg crz frz cpv cpv2 z1 z4 hi1
        go_wp2_with fail
        refine htk.mono ?_
        rintro e w6 hE
        obtain ⟨t3, G3, u, rfl, hu, ha⟩ := hE.done (ptDo_quiet w b)
        rw [htg] at hu ha
        obtain ⟨qq, hqin, rfl⟩ := hu
        simp only at ha hqin ⊢
        obtain ⟨so, sr, sa, la, lo, lr, r5⟩ := HS5.out
        obtain ⟨o3, hwa, hlo, hlr, hak4⟩ := HO3.out
        have hD6 := HD5.out.aft ha
        obtain ⟨so6, lo6⟩ := ha.svar lo so
        obtain ⟨sr6, lr6⟩ := ha.svar lr sr
        obtain ⟨sa6, la6⟩ := ha.svar la sa
        have r6 := r5.aft ha
        have b7 : But za w6 (sput w6 za ((⟨x'.2.1, x'.2.2⟩ : Ag).row qq)) := But.sput _ _ _
        have hst := sa6.store (row' := (⟨x'.2.1, x'.2.2⟩ : Ag).row qq) rfl sh42 (Ag.row_one _ _)
        have sa7 := sa6.put (row' := (⟨x'.2.1, x'.2.2⟩ : Ag).row qq) rfl
        have hD7 := hD6.aside b7 la6 (.inr hwa)
        have so7 := so6.same b7.size (b7.block _ so6.lt (by omega))
        have sr7 := sr6.same b7.size (b7.block _ sr6.lt (by omega))
        have la7 := la6.same b7.size
        have lo7 := lo6.same b7.size
        have r7 := r6.same (t1 := t3) (G1 := G3) (w1 := sput w6 za ((⟨x'.2.1, x'.2.2⟩ : Ag).row qq)) fun y e => ⟨(r6.loc y e).same b7.size, b7.block y (r6.loc y e).lt (o3 y e).2⟩
        obtain ⟨w7, hw7⟩ : ∃ w7, w7 = sput w6 za ((⟨x'.2.1, x'.2.2⟩ : Ag).row qq) := ⟨_, rfl⟩
        rw [← hw7] at sa7 hD7 so7 sr7 la7 lo7 r7 b7
        have HW7 : Hid ((((((((((((w6.setCell ⟨za, 0, none⟩ (.int .i64 x'.2.1.ver)).setCell ⟨za, 1, none⟩ (.int .i64 x'.2.1.rate)).setCell ⟨za, 2, none⟩ (.string x'.2.1.lo)).setCell ⟨za, 3, none⟩ (.string x'.2.1.hi)).setCell ⟨za, 4, none⟩ (.bool x'.2.1.all)).setCell ⟨za, 5, none⟩ (.bool x'.2.1.dead)).setCell ⟨za, 6, none⟩ (.slice qq.s0.a qq.s0.n qq.s0.cap)).setCell ⟨za, 7, none⟩ (.slice qq.s1.a qq.s1.n qq.s1.cap)).setCell ⟨za, 8, none⟩ (.slice qq.s2.a qq.s2.n qq.s2.cap)).setCell ⟨za, 9, none⟩ (.slice qq.s3.a qq.s3.n qq.s3.cap)).setCell ⟨za, 10, none⟩ (.int .i64 x'.2.2)) = w7) := hw7.symm
        have g0 := sa6.cell (i := 0) rfl
        have g1 := sa6.cell (i := 1) rfl
        have g2 := sa6.cell (i := 2) rfl
        have g3 := sa6.cell (i := 3) rfl
        have g4 := sa6.cell (i := 4) rfl
        have g5 := sa6.cell (i := 5) rfl
        have g6 := sa6.cell (i := 6) rfl
        have g7 := sa6.cell (i := 7) rfl
        have g8 := sa6.cell (i := 8) rfl
        have g9 := sa6.cell (i := 9) rfl
        have g10 := sa6.cell (i := 10) rfl
        have gf := sa6.fz
        clear hst hw7
        have b8 : But zo w7 (w7.setCell ⟨zo, 0, none⟩ (.bool true)) := (But.refl _ _).set _ _
        have hD8 := hD7.aside b8 lo7 (.inl (by simp))
        have so8 : SVar (w7.setCell ⟨zo, 0, none⟩ (.bool true)) zo [.bool true] := so7.set (i := 0) (by simp) _
        have sr8 := sr7.same b8.size (b8.block _ sr7.lt hne.symm)
        have sa8 := sa7.same b8.size (b8.block _ sa7.lt (by omega))
        have la8 := la7.same b8.size
        have r8 := r7.same (t1 := t3) (G1 := G3) (w1 := w7.setCell ⟨zo, 0, none⟩ (.bool true)) fun y e => ⟨(r7.loc y e).same b8.size, b8.block y (r7.loc y e).lt (by have := (o3 y e).1; omega)⟩
        have hX2 : Hid (LfX w0 b c r G w zo zr m (x0 :: l') (i + 1) za x'.1 (w7.setCell ⟨zo, 0, none⟩ (.bool true))) := by
          obtain ⟨z1, hi1⟩ := HI5.out
          refine ⟨t3, G3, _, a2, c2, ⟨x'.2.1, x'.2.2⟩, qq, hD8, (hak4.trans (AskN.ask _)).le (by push_cast; omega), so8, sr8, r8, o3, sa8, la8, hwa, fun y hy => ?_, fun hge => by omega⟩
          rw [z1] at hy
          cases hy
          exact ⟨rfl, rfl⟩
        clear co fo
        have co := so7.cell (i := 0) rfl
        have fo := so7.fz
        unfold Ag.v
        simp only
        clear htk hE ha htg so sr sa la lo lr r5 o3 hwa hlo hlr hak4 hD6 so6 lo6 sr6 lr6 sa6 la6 r6 b7 sa7 hD7 so7 sr7 la7 lo7 r7 b8 hD8 so8 sr8 sa8 la8 r8 hqin
        simp only at g0 g1 g2 g3 g4 g5 g6 g7 g8 g9 g10
        go_wp2_with (first | rw [HW7.out] | fail)
        exact ⟨⟨i + 1, x'.1, rfl, rfl, by omega, hX2⟩, by simp only [intOf]; omega⟩
    · have hie : i = n := by omega
      have h0 : h = 0 := hin0 (by rw [← HN.out]; omega)
      subst h0
      have htk : (x0 :: l').take i = x0 :: l' := by rw [hie, HN.out]; exact List.take_length
      rw [htk] at r1
      have hvl : (((x0 :: l').map fun x => x.2.1.ver)).length = i := by rw [List.length_map, ← HN.out]; exact hie.symm
      rw [← hvl] at r1
      obtain ⟨G3, hD3, sl1, gr3, lc3⟩ := r1.frz hD (fun y hy => (o1 y (by rw [hvl] at hy; exact hy)).1) (by rw [hvl]; omega)
      have HQ : Hid (LfQ w0 b c r G w zo zr m (x0 :: l') wr) := ⟨G3, m1', _, hD3.but, hD3.sys.mem, hD3.gro, hak.le (by omega), so, by rw [hvl]; exact sr, sl1⟩
      clear hX hD hak so sr r1 o1 sa la hwa hix hin0 hc htk hvl hD3 sl1 gr3 lc3
      go_wp2_with fail
      go_ret
      exact ⟨_, rfl, rfl, HQ.out⟩
end
end Go.Proofs.YtbcpdkmbbgcfbaaDoor
