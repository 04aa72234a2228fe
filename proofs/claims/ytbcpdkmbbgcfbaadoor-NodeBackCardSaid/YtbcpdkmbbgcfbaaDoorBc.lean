/- NodeBack's closure. Condition: the library's table stands. -/
import Derived.Test.YtbcpdkmbbgcfbaaDoorBb
namespace Go.Proofs.YtbcpdkmbbgcfbaaDoor
open Go.RowKit Go.Op
set_option maxRecDepth 100000

/-- Within the loop that changes the copy. -/
def BkOwn (w0 : World) (b c r : Nat) (G : List (Nat × List Value)) (w : World) (t1 : Value) (G1 : List (Nat × List Value)) (m1 : M) (g2 cap2 k : Nat) (W : World) : Prop :=
  Dgo w0 b c r w.heap.size [b, c, r] w t1 G G1 W m1 (ptDo w b) ∧ ∃ l : List Int, l.length = k ∧ ORow w0 b c r w.heap.size t1 G1 W (.slice (some ⟨g2, 0, none⟩) l.length cap2) l
section
variable {w0 w : World} {b c r : Nat} {G : List (Nat × List Value)} {zk zl zh zv zm : Nat}
/-- Within the loop that asks the links. -/
def BkAsk (w0 : World) (b c r : Nat) (G : List (Nat × List Value)) (w : World) (m2 : M) (G3 : List (Nat × List Value)) (zn za : Nat) (nrow arow : List Value) (g3 slc sln : Nat) (cells : List Int) (j : Nat) (W : World) : Prop :=
  ∃ (t1 : Value) (G1 : List (Nat × List Value)) (m1 : M), Dgo w0 b c r w.heap.size [b, c, r] w t1 G G1 W m1 (ptDo w b) ∧ (∀ x, x ∈ G3 → x ∈ G1) ∧ AskN m2 m1 (10 + (j : Int)) ∧ SVar W zn nrow ∧ Loc w0 b c r w.heap.size t1 G1 W zn ∧ SVar W za arow ∧ Loc w0 b c r w.heap.size t1 G1 W za ∧ ORow w0 b c r w.heap.size t1 G1 W (.slice (some ⟨g3, 0, none⟩) sln slc) cells
set_option maxHeartbeats 4000000 in
theorem back1_any (h : HasE w0 b c r G w (M.new 60)) (hT : TabAt w0) (low : ByteArray) (head version : Int) (links : List Int) (hk30 : links.length ≤ 30) (la : Option Addr) (lcap : Nat) (hpar : ParI b c r w la links) (hnone : la = none → links = [])
    (ck : w.cell? ⟨zk, 0, none⟩ = some (.slice la links.length lcap)) (lk : zk < w.heap.size ∧ zk ∉ [b, c, r]) (cl : w.cell? ⟨zl, 0, none⟩ = some (.string low)) (ll : zl < w.heap.size ∧ zl ∉ [b, c, r]) (ch : w.cell? ⟨zh, 0, none⟩ = some (.int .i64 head)) (lh : zh < w.heap.size ∧ zh ∉ [b, c, r])
    (cv : w.cell? ⟨zv, 0, none⟩ = some (.int .i64 version)) (lv : zv < w.heap.size ∧ zv ∉ [b, c, r]) (cm : w.cell? ⟨zm, 0, none⟩ = some (.pointer (some ⟨b, 0, none⟩))) (lm : zm < w.heap.size ∧ zm ∉ [b, c, r]) :
    Calls Tryd.prog 31 (#[.pointer (some ⟨w.heap.size, 0, none⟩)] ++ #[.pointer (some ⟨zk, 0, none⟩), .pointer (some ⟨zl, 0, none⟩), .pointer (some ⟨zh, 0, none⟩), .pointer (some ⟨zv, 0, none⟩), .pointer (some ⟨zm, 0, none⟩)]) (w.alloc (portObj b)) fun e w' => ∃ u, e = .returned u ∧ u = .iface 4 (.bool true) ∧ ButN [b, c, r] w.heap.size w w' := by
  have hD := Dgo.start h (Z := [b, c, r]) ⟨by simp, by simp, by simp⟩
  obtain ⟨k, hk⟩ : ∃ k, k = links.length := ⟨_, rfl⟩
  have hnl : (M.new 60).cells.length = 60 := by simp [M.new]
  obtain ⟨hh, cs, m1, e1, L1⟩ := layW_yes (nodeOf low) (head :: links) [] (new_tidy 60) (by decide) (by rw [hnl]; simp only [List.length_cons]; have : (M.new 60).live = 0 := rfl; omega) (by rw [hnl]; decide)
  have hcl := L1.len
  match cs, hcl, L1, e1 with
  | [], hcl, _, _ => simp at hcl
  | hc :: nc, hcl, L1, e1 =>
  have hncl : nc.length = k := by simp only [List.length_cons] at hcl; omega
  obtain ⟨hg, cs2, m2, e2, L2⟩ := layW_yes (ageOf { rv0 with ver := version }) [hh] [] L1.tidy (by decide) (by rw [L1.size, L1.live, hnl]; simp only [List.length_cons, List.length_nil]; have : (M.new 60).live = 0 := rfl; omega) (by rw [L1.size, hnl]; decide)
  have hcl2 := L2.len
  match cs2, hcl2, L2, e2 with
  | [], hcl2, _, _ => simp at hcl2
  | _ :: _ :: _, hcl2, _, _ => simp at hcl2
  | [pv], hcl2, L2, e2 =>
  have lnode1 : m1.look hh = some (.blk (.node low hc nc) .nil) := L1.at_
  have old : ∀ k, m1.look k ≠ none → m2.look k = m1.look k := fun k hk => L2.other k fun e => hk (L2.free k e)
  have lnode : m2.look hh = some (.blk (.node low hc nc) .nil) := (old hh (by rw [lnode1]; simp)).trans lnode1
  have lhc1 : m1.look hc = some (.word head) := L1.words 0 hc head rfl rfl
  have lhc : m2.look hc = some (.word head) := (old hc (by rw [lhc1]; simp)).trans lhc1
  have lnc : ∀ (i : Nat) (c y : Int), nc[i]? = some c → links[i]? = some y → m2.look c = some (.word y) := fun i c y hc' hy => by
    have := L1.words (i + 1) c y (by simpa using hc') (by simpa using hy)
    exact (old c (by rw [this]; simp)).trans this
  have lage : m2.look hg = some (.blk (.age { rv0 with ver := version } pv) .nil) := L2.at_
  have lpv : m2.look pv = some (.word hh) := L2.words 0 pv hh rfl rfl
  have hgp : hg ≠ pv := fun e => (List.nodup_cons.1 L2.nd).1 (by rw [e]; exact List.mem_cons_self)
  have hlive1 : m1.live = (k : Int) + 2 := by rw [L1.live]; simp only [List.length_cons]; have : (M.new 60).live = 0 := rfl; omega
  have hlive2 : m2.live = (k : Int) + 4 := by rw [L2.live, hlive1]; simp only [List.length_cons, List.length_nil]; omega
  have hcnt1 : m1.count ≤ 32 := by rw [L1.cnt]; simp only [List.length_cons]; have : (M.new 60).count = 0 := rfl; omega
  have hcnt2 : m2.count ≤ 40 := by rw [L2.cnt]; simp only [List.length_cons, List.length_nil]; omega
  have hgnd : hg ∉ hh :: hc :: nc ∧ pv ∉ hh :: hc :: nc := by
    have q : ∀ z, z ∈ hh :: hc :: nc → m1.look z ≠ none := fun z hz => by
      rcases List.mem_cons.1 hz with rfl | hz
      · rw [lnode1]; simp
      rcases List.mem_cons.1 hz with rfl | hz
      · rw [lhc1]; simp
      · obtain ⟨i, hi⟩ := List.mem_iff_getElem?.1 hz
        have hi2 := (List.getElem?_eq_some_iff.1 hi).1
        have := L1.words (i + 1) z (links[i]'(by omega)) (by simpa using hi) (by simp)
        rw [this]; simp
    exact ⟨fun e => q _ e (L2.free _ List.mem_cons_self), fun e => q _ e (L2.free _ (by simp))⟩
  have hundo : ∀ (m3 : M) (j : Int), AskN m2 m3 j → ∃ m4 m5, (undoNP hh).go m3 = (0, m4) ∧ m4.live = 2 ∧ m4.count ≤ m3.count + 70 ∧ m3.count ≤ m4.count ∧ (liftP hg).go m4 = (0, m5) ∧ m5.live = 0 ∧ m5.count ≤ m4.count + 4 := fun m3 j ha => by
    obtain ⟨m4, u1, u2, u3, u4, u5, u6, u7⟩ := undoN_go (ha.tidy L2.tidy) ((ha.look hh).trans lnode) L1.nd fun z hz => by
      rcases List.mem_cons.1 hz with rfl | hz
      · exact ⟨_, (ha.look _).trans lhc⟩
      · obtain ⟨i, hi⟩ := List.mem_iff_getElem?.1 hz
        have hi2 := (List.getElem?_eq_some_iff.1 hi).1
        exact ⟨_, (ha.look z).trans (lnc i z (links[i]'(by omega)) hi (by simp))⟩
    obtain ⟨m5, v1, v2, v3, v4⟩ := lift_go (h := hg) (p := pv) (x := hh) u7 (by rw [u2, if_neg hgnd.1, ha.look, lage]) hgp (by rw [u2, if_neg hgnd.2, ha.look, lpv])
    have : m3.live = m2.live := ha.live
    exact ⟨m4, m5, u1, by omega, by omega, u6, v1, by omega, v3⟩
  have K0 := Lib.hid (fun (t1 : Value) (G1 : List (Nat × List Value)) (w1 : World) (m1 : M) (s1 : Pt) (hd' : Dgo w0 b c r w.heap.size [b, c, r] w t1 G G1 w1 m1 s1) => (⟨LocM.cellD lk.2 lk.1 hd' (hk ▸ ck), LocM.cellD ll.2 ll.1 hd' cl, LocM.cellD lh.2 lh.1 hd' ch, LocM.cellD lv.2 lv.1 hd' cv, LocM.cellD lm.2 lm.1 hd' cm⟩ : _ ∧ _ ∧ _ ∧ _ ∧ _))
  have KP : Hid (∀ (t1 : Value) (G1 : List (Nat × List Value)) (w1 : World) (m1 : M) (s1 : Pt), Dgo w0 b c r w.heap.size [b, c, r] w t1 G G1 w1 m1 s1 → ∀ (j : Nat) (x : Int), links[j]? = some x → ∃ g o, la = some ⟨g, o, none⟩ ∧ w1.cell? ⟨g, o + j, none⟩ = some (.int .i64 x)) := fun t1 G1 w1 m1 s1 hd' j x hx => by
    rcases hpar with e | ⟨g, o, e, hlt, hz, hr⟩
    · rw [e] at hx; simp at hx
    · exact ⟨g, o, e, LocM.cellD hz hlt hd' (hr j _ (ints_get hx))⟩
  have hcopy := fun ty => copy_run hD (a := la) (cap := lcap) (l := links) (by omega) (by
    rcases hpar with e | ⟨g, o, e, hlt, hz, hr⟩
    · exact .inl e
    · exact .inr ⟨g, o, e, Nat.lt_of_lt_of_le hlt hD.but.size, fun j u hj => LocM.cellD hz hlt hD (hr j u hj)⟩) hnone ty
  rw [← hk] at hcopy
  have HT := Lib.hid hT
  have HN := Lib.hid (⟨hk, hncl, hnl⟩ : _ ∧ _ ∧ _)
  have HG := Lib.hid (⟨e1, e2, lnode, lhc, lnc, lage, lpv⟩ : _ ∧ _ ∧ _ ∧ _ ∧ _ ∧ _ ∧ _)
  have HC := Lib.hid (⟨hcnt1, hcnt2, hlive2⟩ : _ ∧ _ ∧ _)
  have HU := Lib.hid hundo
  have HCo := Lib.hid hcopy
  have hk30 : (k : Int) ≤ 30 := by omega
  obtain ⟨k1, k2, k3, k4, k5⟩ := K0.out _ _ _ _ _ hD
  obtain ⟨wq, hwq⟩ : ∃ W, W = (w.alloc (portObj b)).alloc (.cells #[] 3) := ⟨_, rfl⟩
  have q1 : wq.cell? ⟨zk, 0, none⟩ = some (.slice la k lcap) := by
    have hb : Below (w.alloc (portObj b)).heap.size (w.alloc (portObj b)) wq := by rw [hwq]; exact (Below.refl _ _).alloc (Nat.le_refl _) _
    exact (K0.out _ _ _ _ _ (hD.later hb)).1
  have HWq := Lib.hid hwq.symm
  have hmk := mkb4
  rw [← hwq] at hcopy HCo
  show Calls Tryd.prog 31 #[.pointer (some ⟨w.heap.size, 0, none⟩), .pointer (some ⟨zk, 0, none⟩), .pointer (some ⟨zl, 0, none⟩), .pointer (some ⟨zh, 0, none⟩), .pointer (some ⟨zv, 0, none⟩), .pointer (some ⟨zm, 0, none⟩)] (w.alloc (portObj b)) _
  clear h hT hpar hnone ck lk cl ll ch lh cv lv cm lm hD hnl L1 L2 hcl hncl hcl2 e1 e2 lnode1 old lnode lhc1 lhc lnc lage lpv hgp hlive1 hlive2 hcnt1 hcnt2 hgnd hundo hcopy hk hwq k1 k2 k3 k4 k5
  generalize hwp : w.alloc (portObj b) = wp at *
  go_enter Tryd.func31, Tryd.ntmps31
  go_wp2_with (first | rw [HWq.out] | (at_builtin; refine append_run2 rfl (.tmp 26) (.tmp 27) 25 rfl rfl rfl HCo.out ?_; rintro v' w3 ⟨g2, cap2, rfl, HO⟩; clear HCo q1; obtain ⟨k1, k2, k3, k4, k5⟩ := K0.out _ _ _ _ _ HO.out.1) | fail)
  obtain ⟨hD, hO, hge⟩ := HO.out
  have hO2 := hO
  rw [HN.out.1] at hO2
  have hl := Make_E hD.sys HT.out (by have : (M.new 60).count = 0 := rfl; omega) low head ⟨g2, 0, none⟩ cap2 links (by have := HN.out.1; omega) (fun j u hj => World.ownsRow.cells hO2.own (g := g2) rfl j u hj) (fun _ => (hO2.loc g2 rfl).lt)
  rw [← HN.out.1] at hl
  clear hD hO hO2 hge
  refine hl.mono ?_
  rintro e w4 hE
  obtain ⟨t4, G4, u, rfl, hv, ha⟩ := hE.done (ptDo_quiet w b)
  unfold makeP at hv ha
  rw [HG.out.1] at hv ha
  replace hv : u = .tuple #[.int .i64 hh, .int .i64 0] := hv
  subst hv
  simp only at ha
  have hX0 : Hid (BkOwn w0 b c r G w t4 G4 m1 g2 cap2 k w4) := ⟨HO.out.1.aft ha, links, HN.out.1.symm, by have := HO.out.2.1.aft ha; rw [HN.out.1] at this; exact this⟩
  have HGe := Lib.hid HO.out.2.2
  clear hl hE ha HO k1 k2 k3 k4 k5
  go_wp2_with fail
  go_loopw [11] (fun iv wr => ∃ i : Nat, iv = .int .i64 (i : Int) ∧ i ≤ k ∧ Hid (BkOwn w0 b c r G w t4 G4 m1 g2 cap2 k wr)) (fun iv _ => k - (intOf iv).toNat)
  case atStart => exact ⟨0, rfl, Nat.zero_le _, hX0⟩
  case round =>
    obtain ⟨i, rfl, hi, hX⟩ := hrel
    obtain ⟨hD, l, hl, hO⟩ := hX.out
    by_cases hin : i < k
    · have hin2 : (i : Int) < (k : Int) := by omega
      obtain ⟨x, hx⟩ : ∃ x, l[i]? = some x := ⟨_, List.getElem?_eq_getElem (by omega)⟩
      have cx : wr.cell? ⟨g2, i, none⟩ = some (.int .i64 x) := by
        have := World.ownsRow.cells hO.own (g := g2) rfl i _ (ints_get hx)
        rwa [add_off, Nat.zero_add] at this
      have fx : ∀ j, wr.frozen? ⟨g2, j, none⟩ = false := fun j => hO.own.frozenAt j
      have HP : Hid (∀ y : Int, BkOwn w0 b c r G w t4 G4 m1 g2 cap2 k (wr.setCell ⟨g2, i, none⟩ (.int .i64 y))) := fun y => by
        obtain ⟨q1, q2⟩ := hO.store hD HGe.out i y
        exact ⟨q1, l.set i y, by rw [List.length_set]; exact hl, q2⟩
      clear hX hD hl hO hx hX0 hi
      go_wp2_with fail
      exact ⟨⟨i + 1, rfl, by omega, HP.out _⟩, by simp only [intOf]; omega⟩
    · have hin2 : ¬ (i : Int) < (k : Int) := by omega
      have hX2 := hX.out.1
      replace hD := hX2
      obtain ⟨k1, k2, k3, k4, k5⟩ := K0.out _ _ _ _ _ hD
      clear hX hX2 hX0 hl hO hi hin
      have hl := Lay_E hD.sys HT.out (by have := HC.out.1; omega) { rv0 with ver := version } .nil ⟨.nil, .nil, .nil, .nil⟩ hh
      have HDx := Lib.hid hD
      unfold Rv.v at hl
      simp only [rv0, Pl.nil, Sl.nil] at hl
      clear hD
      go_wp2_with fail
      refine hl.mono ?_
      rintro e w5 hE
      obtain ⟨t5, G5, u, rfl, hv, ha⟩ := hE.done (ptDo_quiet w b)
      unfold layP at hv ha
      have hg2 := HG.out.2.1
      simp only [rv0] at hg2
      rw [hg2] at hv ha
      replace hv : u = .tuple #[.int .i64 hg, .int .i64 0] := hv
      subst hv
      simp only at ha
      have hD := HDx.out.aft ha
      have hA0 : AskN m2 m2 0 := AskN.refl m2
      clear hl hE ha HDx k1 k2 k3 k4 k5 hg2
      obtain ⟨k1, k2, k3, k4, k5⟩ := K0.out _ _ _ _ _ hD
      have gh := node_go HG.out.2.2.1
      have hl := Load_E hD.sys (by have := HC.out.2.1; omega) hh
      have HDx := Lib.hid hD
      clear hD
      go_wp2_with fail
      refine hl.mono ?_
      rintro e w6 hE
      obtain ⟨t6, G6, u, rfl, ⟨q6, hin6, rfl⟩, ha⟩ := hE.done (ptDo_quiet w b)
      rw [gh] at hin6 ha ⊢
      simp only at hin6 ha ⊢
      obtain ⟨v6, hv6⟩ : ∃ W, W = w6.alloc (.cells ((⟨low, hc, nc⟩ : Nd).row q6).toArray 27) := ⟨_, rfl⟩
      have hb6 : Below w6.heap.size w6 v6 := by rw [hv6]; exact (Below.refl _ _).alloc (Nat.le_refl _) _
      have sn : SVar v6 w6.heap.size ((⟨low, hc, nc⟩ : Nd).row q6) := by rw [hv6]; exact snew _ _ _
      have hD := (HDx.out.aft ha).later hb6
      have ln : Loc w0 b c r w.heap.size t6 G6 v6 w6.heap.size := by rw [hv6]; exact (HDx.out.aft ha).sys.fresh _
      have hsl : q6.s0.In G6 (ints nc) := hin6
      have hA1 : AskN m2 m2.ask 1 := AskN.ask m2
      have HW6 := Lib.hid hv6.symm
      have HS6 := Lib.hid (⟨sn, ln, hsl⟩ : _ ∧ _ ∧ _)
      unfold Nd.v
      simp only [Nd.row] at HW6
      simp only
      clear hl hE ha HDx k1 k2 k3 k4 k5 gh hin6 hv6 hb6 sn ln hsl hA0
      obtain ⟨k1, k2, k3, k4, k5⟩ := K0.out _ _ _ _ _ hD
      have gh := takeA_go ((hA1.look hg).trans HG.out.2.2.2.2.2.1)
      have hl := Take_E hD.sys (by have := hA1.cnt; have := HC.out.2.1; omega) hg
      have HDx := Lib.hid hD
      clear hD
      go_wp2_with (first | rw [HW6.out] | fail)
      refine hl.mono ?_
      rintro e w7 hE
      obtain ⟨t7, G7, u, rfl, ⟨q7, hin7, rfl⟩, ha⟩ := hE.done (ptDo_quiet w b)
      rw [gh] at hin7 ha ⊢
      simp only at ha ⊢
      obtain ⟨ag, hag⟩ : ∃ a, a = (⟨{ rv0 with ver := version }, pv⟩ : Ag) := ⟨_, rfl⟩
      rw [← hag]
      obtain ⟨v7, hv7⟩ : ∃ W, W = w7.alloc (.cells (ag.row q7).toArray 42) := ⟨_, rfl⟩
      have hb7 : Below w7.heap.size w7 v7 := by rw [hv7]; exact (Below.refl _ _).alloc (Nat.le_refl _) _
      have sa : SVar v7 w7.heap.size (ag.row q7) := by rw [hv7]; exact snew _ _ _
      have hD := (HDx.out.aft ha).later hb7
      have la7 : Loc w0 b c r w.heap.size t7 G7 v7 w7.heap.size := by rw [hv7]; exact (HDx.out.aft ha).sys.fresh _
      obtain ⟨sn, ln, hsl⟩ := HS6.out
      obtain ⟨sn7, ln7⟩ := ha.svar ln sn
      have sn7' := sn7.later hb7
      have ln7' := ln7.same hb7.size
      have hsl7 := hsl.more fun x hx => ha.gro.1 x hx
      have hA2 : AskN m2 m2.ask.ask 2 := hA1.trans (AskN.ask _)
      have HW7 := Lib.hid hv7.symm
      have HS7 := Lib.hid (⟨sn7', ln7', hsl7, sa, la7⟩ : _ ∧ _ ∧ _ ∧ _ ∧ _)
      have HAg := Lib.hid hag
      unfold Ag.v
      simp only [Ag.row] at HW7
      clear hl hE ha HDx k1 k2 k3 k4 k5 gh hin7 hv7 hb7 sa la7 sn ln hsl sn7 ln7 sn7' ln7' hsl7 hA1 hag HS6 HW6
      obtain ⟨k1, k2, k3, k4, k5⟩ := K0.out _ _ _ _ _ hD
      have hld := HS7.out.1.load sh27
      have hl := own_E hD.sys hh ⟨low, hc, nc⟩ q6 HS7.out.2.2.1 (by have := HN.out.2.1; simp only; omega)
      have HDx := Lib.hid hD
      unfold Nd.v at hl
      simp only [Nd.row] at hld hl
      clear hD
      go_wp2_with (first | rw [HW7.out] | ((with_reducible refine load_run ?_ (.tmp 14) 27 ?_ ?_ hld ?_); exact rfl; exact rfl; exact rfl) | fail)
      refine hl.mono ?_
      rintro e w8 ⟨sl, rfl, hO⟩
      have hD := HDx.out.aft hO.aft
      obtain ⟨sn, ln, hsl, sa, la7⟩ := HS7.out
      obtain ⟨sn8, ln8⟩ := hO.aft.svar ln sn
      obtain ⟨sa8, la8⟩ := hO.aft.svar la7 sa
      have hsl8 := hsl.more fun x hx => hO.aft.gro.1 x hx
      have hrow := hO.row
      have hon := hO.n
      have HLV : Hid (∀ W, Below w8.heap.size w8 W → Calls Tryd.prog 36 #[.pointer (some ⟨b, 0, none⟩)] W fun e w' => e = .returned (.int .i64 ((k : Int) + 4)) ∧ W = w') := fun W hW => by
        have hlv := live_E (hD.later hW).sys.mem
        rw [hA2.live, HC.out.2.2] at hlv
        exact hlv
      have hlen3 : (hh :: hc :: nc).length = k + 2 := by have := HN.out.2.1; simp only [List.length_cons]; omega
      obtain ⟨sla, sln, slc⟩ := sl
      simp only at hrow hon hO ⊢
      rw [hlen3] at hon
      obtain ⟨g3, hg3⟩ : ∃ g3, sla = some ⟨g3, 0, none⟩ := by
        rcases id hrow.own.2 with ⟨e, e2⟩ | ⟨g3, c3, cur, e, -⟩
        · simp at e2
        · simp only [Value.slice.injEq] at e
          exact ⟨g3, e.1⟩
      subst hg3
      have hr0 : w8.cell? ⟨g3, 0, none⟩ = some (.int .i64 hh) := by
        have := World.ownsRow.cells hrow.own (g := g3) rfl 0 _ (ints_get rfl)
        rwa [add_off] at this
      have hr1 : w8.cell? ⟨g3, 1, none⟩ = some (.int .i64 hc) := by
        have := World.ownsRow.cells hrow.own (g := g3) rfl 1 _ (ints_get rfl)
        rwa [add_off] at this
      have c0 := sn8.cell (i := 0) rfl
      have c1 := sn8.cell (i := 1) rfl
      have c2 := sn8.cell (i := 2) rfl
      have hqn := hsl8.n
      rw [ints_length, HN.out.2.1] at hqn
      rw [hqn] at c2
      have a0 : w8.cell? ⟨w7.heap.size, 0, none⟩ = some (.int .i64 version) := by
        have := sa8.cell (i := 0) rfl
        rw [HAg.out] at this
        exact this
      have a10 : w8.cell? ⟨w7.heap.size, 10, none⟩ = some (.int .i64 pv) := by
        have := sa8.cell (i := 10) rfl
        rw [HAg.out] at this
        exact this
      have hn2 : (sln : Int) = (k : Int) + 2 := by omega
      have hq2 : ((sln : Int) != (k : Int) + 2) = false := by simpa using hn2
      have hq3 : (1 : Int) < (sln : Int) := by omega
      have hq4 : (0 : Int) < (sln : Int) := by omega
      have hq5 : (sln : Int) ≤ 40 := by omega
      have HD8 := Lib.hid hD
      have HS8 := Lib.hid (⟨sn8, ln8, sa8, la8, hsl8, hrow, hn2, hqn⟩ : _ ∧ _ ∧ _ ∧ _ ∧ _ ∧ _ ∧ _ ∧ _)
      clear hl hO sn ln hsl sa la7 sn8 ln8 sa8 la8 hsl8 hrow hon hlen3 hqn hn2 HDx HS7 HW7 hld k1 k2 k3 k4 k5
      obtain ⟨k1, k2, k3, k4, k5⟩ := K0.out _ _ _ _ _ hD
      clear hD
      go_wp2_with fail
      go_quiet ((go_at_call 36; exact Calls.quiet_of_same ((HLV.out _ (below_drewN _ _)).mono fun _ _ ⟨p, q⟩ => ⟨p, q.symm⟩)))
      obtain ⟨W8, hW8⟩ : ∃ W8, W8 = w8.drewN nq := ⟨_, rfl⟩
      have hb8 : Below w8.heap.size w8 W8 := by rw [hW8]; exact below_drewN _ _
      rw [← hW8]
      clear hW8 nq HLV hr0 hr1 c0 c1 c2 a0 a10 k1 k2 k3 k4 k5
      obtain ⟨sn8, ln8, sa8, la8, hsl8, hrow, hn2, hqn⟩ := HS8.out
      have hD := HD8.out.later hb8
      have sn8' := sn8.later hb8
      have ln8' := ln8.same hb8.size
      have sa8' := sa8.later hb8
      have la8' := la8.same hb8.size
      have hrow' := hrow.later hb8
      have c1 := sn8'.cell (i := 1) rfl
      have a10 : W8.cell? ⟨w7.heap.size, 10, none⟩ = some (.int .i64 pv) := by
        have := sa8'.cell (i := 10) rfl
        rw [HAg.out] at this
        exact this
      clear HD8 HS8
      have HD8 := Lib.hid hD
      have HS8 := Lib.hid (⟨sn8', ln8', sa8', la8', hsl8, hrow', hn2, hqn⟩ : _ ∧ _ ∧ _ ∧ _ ∧ _ ∧ _ ∧ _ ∧ _)
      clear sn8 ln8 sa8 la8 hsl8 hrow hn2 hqn sn8' ln8' sa8' la8' hrow' hb8
      obtain ⟨k1, k2, k3, k4, k5⟩ := K0.out _ _ _ _ _ hD
      clear hD
      have gh := wordA_go ((hA2.look hc).trans HG.out.2.2.2.1)
      have hl := eword2 HD8.out.sys (by have := hA2.cnt; have := HC.out.2.1; omega) hc
      go_wp2_with fail
      refine hl.mono ?_
      rintro e w9 hE
      obtain ⟨t9, G9, u, rfl, hv, ha⟩ := hE.done (ptDo_quiet w b)
      rw [gh] at hv ha
      replace hv : u = .tuple #[.int .i64 head, .int .i64 0] := hv
      subst hv
      simp only at ha
      have hD := HD8.out.aft ha
      obtain ⟨sn8, ln8, sa8, la8, hsl8, hrow, hn2, hqn⟩ := HS8.out
      obtain ⟨sn9, ln9⟩ := ha.svar ln8 sn8
      obtain ⟨sa9, la9⟩ := ha.svar la8 sa8
      have hsl9 := hsl8.more fun x hx => ha.gro.1 x hx
      have hrow9 := hrow.aft ha
      have hA3 : AskN m2 m2.ask.ask.ask 3 := hA2.trans (AskN.ask _)
      have gh2 := wordA_go ((hA3.look pv).trans HG.out.2.2.2.2.2.2)
      have hl2 := eword2 hD.sys (by have := hA3.cnt; have := HC.out.2.1; omega) pv
      clear a10
      have a10 : w9.cell? ⟨w7.heap.size, 10, none⟩ = some (.int .i64 pv) := by
        have := sa9.cell (i := 10) rfl
        rw [HAg.out] at this
        exact this
      have HD9 := Lib.hid hD
      have HS9 := Lib.hid (⟨sn9, ln9, sa9, la9, hsl9, hrow9, hn2, hqn⟩ : _ ∧ _ ∧ _ ∧ _ ∧ _ ∧ _ ∧ _ ∧ _)
      clear hl hE ha gh sn8 ln8 sa8 la8 hsl8 hrow hn2 hqn sn9 ln9 sa9 la9 hsl9 hrow9 c1 k1 k2 k3 k4 k5 HD8 HS8 hA2
      obtain ⟨k1, k2, k3, k4, k5⟩ := K0.out _ _ _ _ _ hD
      clear hD
      go_wp2_with fail
      refine hl2.mono ?_
      rintro e w10 hE
      obtain ⟨t10, G10, u, rfl, hv, ha⟩ := hE.done (ptDo_quiet w b)
      rw [gh2] at hv ha
      replace hv : u = .tuple #[.int .i64 hh, .int .i64 0] := hv
      subst hv
      simp only at ha
      have hD := HD9.out.aft ha
      obtain ⟨sn8, ln8, sa8, la8, hsl8, hrow, hn2, hqn⟩ := HS9.out
      obtain ⟨sn9, ln9⟩ := ha.svar ln8 sn8
      obtain ⟨sa9, la9⟩ := ha.svar la8 sa8
      have hX0 : Hid (BkAsk w0 b c r G w m2 G9 w6.heap.size w7.heap.size ((⟨low, hc, nc⟩ : Nd).row q6) (ag.row q7) g3 slc sln (hh :: hc :: nc) 0 w10) := ⟨t10, G10, _, hD, fun x hx => ha.gro.1 x hx, (hA3.trans (AskN.ask _)).le (by omega), sn9, ln9, sa9, la9, hrow.aft ha⟩
      have HZ := Lib.hid (⟨hn2, hqn, hsl8⟩ : _ ∧ _ ∧ _)
      clear hl2 hE ha gh2 sn8 ln8 sa8 la8 hsl8 hrow hn2 hqn sn9 ln9 sa9 la9 a10 k1 k2 k3 k4 k5 HD9 HS9 hA3
      obtain ⟨k1, k2, k3, k4, k5⟩ := K0.out _ _ _ _ _ hD
      clear hD
      go_wp2_with fail
      go_loopw [23] (fun jv wr => ∃ j : Nat, jv = .int .i64 (j : Int) ∧ j ≤ k ∧ Hid (BkAsk w0 b c r G w m2 G9 w6.heap.size w7.heap.size ((⟨low, hc, nc⟩ : Nd).row q6) (ag.row q7) g3 slc sln (hh :: hc :: nc) j wr)) (fun jv _ => k - (intOf jv).toNat)
      case atStart => exact ⟨0, rfl, Nat.zero_le _, hX0⟩
      case round =>
        clear k1 k2 k3 k4 k5
        obtain ⟨j, rfl, hj, hX⟩ := hrel
        obtain ⟨t1, G1, m3, hD, hgr, hA, sn, ln, sa, la7, hrow⟩ := hX.out
        obtain ⟨k1, k2, k3, k4, k5⟩ := K0.out _ _ _ _ _ hD
        by_cases hin : j < k
        · have hin2 : (j : Int) < (k : Int) := by omega
          have hin3 : (j : Int) + 2 < (sln : Int) := by have := HZ.out.1; omega
          obtain ⟨hkl, hncl, -⟩ := HN.out
          obtain ⟨x, hx⟩ : ∃ x, links[j]? = some x := ⟨_, List.getElem?_eq_getElem (by omega)⟩
          obtain ⟨cj, hcj⟩ : ∃ cj, nc[j]? = some cj := ⟨_, List.getElem?_eq_getElem (by omega)⟩
          obtain ⟨lg, lo, ela, -⟩ := KP.out _ _ _ _ _ hD j x hx
          obtain ⟨gn, on, en, ccj⟩ := hD.sys.slcell (i := j) (HZ.out.2.2.more hgr) (ints_get hcj)
          have gh := wordA_go ((hA.look cj).trans (HG.out.2.2.2.2.1 j cj x hcj hx))
          have hl := eword2 hD.sys (by have := hA.cnt; have := HC.out.2.1; omega) cj
          have c2 := sn.cell (i := 2) rfl
          rw [HZ.out.2.1, en] at c2
          have HDx := Lib.hid hD
          have HR := Lib.hid (⟨hgr, hA, sn, ln, sa, la7, hrow, hx, hcj, ela, en⟩ : _ ∧ _ ∧ _ ∧ _ ∧ _ ∧ _ ∧ _ ∧ _ ∧ _ ∧ _ ∧ _)
          clear hX hD hgr hA sn ln sa la7 hrow hx hcj ela en hkl hncl hin hj hX0
          go_wp2_with fail
          refine hl.mono ?_
          rintro e w11 hE
          obtain ⟨t2, G2, u, rfl, hv, ha⟩ := hE.done (ptDo_quiet w b)
          rw [gh] at hv ha
          replace hv : u = .tuple #[.int .i64 x, .int .i64 0] := hv
          subst hv
          simp only at ha
          have hD := HDx.out.aft ha
          obtain ⟨hgr, hA, sn, ln, sa, la7, hrow, hx, hcj, ela, en⟩ := HR.out
          obtain ⟨sn2, ln2⟩ := ha.svar ln sn
          obtain ⟨sa2, la2⟩ := ha.svar la7 sa
          have hrow2 := hrow.aft ha
          obtain ⟨lg', lo', ela', clx⟩ := KP.out _ _ _ _ _ hD j x hx
          rw [ela] at ela'
          cases ela'
          obtain ⟨gn', on', en', ccj2⟩ := hD.sys.slcell (i := j) (HZ.out.2.2.more fun x hx => ha.gro.1 x (hgr x hx)) (ints_get hcj)
          rw [en] at en'
          cases en'
          have cl3 : w11.cell? ⟨g3, j + 2, none⟩ = some (.int .i64 cj) := by
            have := World.ownsRow.cells hrow2.own (g := g3) rfl (j + 2) _ (ints_get (by simpa using hcj))
            rwa [add_off, Nat.zero_add] at this
          clear k1 k2 k3 k4 k5
          obtain ⟨k1, k2, k3, k4, k5⟩ := K0.out _ _ _ _ _ hD
          rw [ela] at k1
          clear c2
          have c2 := sn2.cell (i := 2) rfl
          rw [HZ.out.2.1, en] at c2
          have HNx : Hid (∀ W, Below w11.heap.size w11 W → BkAsk w0 b c r G w m2 G9 w6.heap.size w7.heap.size ((⟨low, hc, nc⟩ : Nd).row q6) (ag.row q7) g3 slc sln (hh :: hc :: nc) (j + 1) W) := fun W hW => ⟨t2, G2, _, hD.later hW, fun x hx => ha.gro.1 x (hgr x hx), (hA.trans (AskN.ask _)).le (by push_cast; omega), sn2.later hW, ln2.same hW.size, sa2.later hW, la2.same hW.size, hrow2.later hW⟩
          clear hl hE ha gh hD hgr hA sn ln sa la7 hrow hx hcj ela en sn2 ln2 sa2 la2 hrow2 HDx HR ccj
          go_wp2_with fail
          go_quiet (fail)
          go_wp2_with fail
          exact ⟨⟨j + 1, rfl, by omega, HNx.out _ (below_drewN _ _)⟩, by simp only [intOf]; omega⟩
        · have hin2 : ¬ (j : Int) < (k : Int) := by omega
          obtain ⟨m4, m5, u1, u2, u3, u4, u5, u6, u7⟩ := HU.out m3 _ hA
          have hcn : m3.count ≤ 100 := by have := hA.cnt; have := HC.out.2.1; omega
          have hl := Undo_E hD.sys (by omega) hh (fun xx s1 m9 hx => by
            rw [(ptDo_quiet w b).run, node_go ((hA.look hh).trans HG.out.2.2.1)] at hx
            cases hx
            have := HN.out.2.1
            simp only; omega)
          have HDx := Lib.hid hD
          have HU2 := Lib.hid (⟨u1, u2, u3, u5, u6, hcn⟩ : _ ∧ _ ∧ _ ∧ _ ∧ _ ∧ _)
          clear hX hgr hA sn ln sa la7 hrow hj hin hX0 u1 u2 u3 u4 u5 u6 u7 hcn hD
          go_wp2_with fail
          refine hl.mono ?_
          rintro e w11 hE
          obtain ⟨t2, G2, u, rfl, hv, ha⟩ := hE.done (ptDo_quiet w b)
          obtain ⟨u1, u2, u3, u5, u6, hcn⟩ := HU2.out
          rw [u1] at hv ha
          replace hv : u = .int .i64 0 := hv
          subst hv
          simp only at ha
          have hD := HDx.out.aft ha
          have hlv := live_E hD.sys.mem
          rw [u2] at hlv
          have hl2 := Lift_E hD.sys (by omega) hg
          clear hl hE ha k1 k2 k3 k4 k5 HDx
          obtain ⟨k1, k2, k3, k4, k5⟩ := K0.out _ _ _ _ _ hD
          have HDx := Lib.hid hD
          clear hD u1 u2 u3 u5 u6 hcn
          go_wp2_with fail
          refine hlv.mono ?_
          rintro e w12 ⟨rfl, rfl⟩
          clear hlv
          go_wp2_with fail
          refine hl2.mono ?_
          rintro e w12 hE
          obtain ⟨t3, G3, u, rfl, hv, ha⟩ := hE.done (ptDo_quiet w b)
          obtain ⟨u1, u2, u3, u5, u6, hcn⟩ := HU2.out
          rw [u5] at hv ha
          replace hv : u = .int .i64 0 := hv
          subst hv
          simp only at ha
          have hD := HDx.out.aft ha
          have hlv := live_E hD.sys.mem
          rw [u6] at hlv
          have HB := Lib.hid hD.but
          clear hl2 hE ha k1 k2 k3 k4 k5 HDx
          obtain ⟨k1, k2, k3, k4, k5⟩ := K0.out _ _ _ _ _ hD
          clear hD u1 u2 u3 u5 u6 hcn
          go_wp2_with fail
          refine hlv.mono ?_
          rintro e w13 ⟨rfl, rfl⟩
          clear hlv
          go_wp2
          go_ret
          exact ⟨_, rfl, rfl, HB.out⟩
end
end Go.Proofs.YtbcpdkmbbgcfbaaDoor
