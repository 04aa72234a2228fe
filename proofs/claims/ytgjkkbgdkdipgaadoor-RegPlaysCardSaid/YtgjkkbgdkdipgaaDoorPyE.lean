/- RegPlays's loop: what the law holds at its head. Conditions: at most 64 clients and places. -/
import Derived.Test.YtgjkkbgdkdipgaaDoorPyD
namespace Go.Proofs.YtgjkkbgdkdipgaaDoor
open Go.RowKit Go.Op
set_option maxRecDepth 100000

theorem HasE.lower {w w1 w2 : World} {b c r : Nat} {G : List (Nat × List Sw)} {m : M} (h : HasE w1 b c r G w2 m) (hb : Below w.heap.size w w1) : HasE w b c r G w2 m := by
  obtain ⟨m0, h1, h2, h3, h4, h5⟩ := h
  exact ⟨m0, ⟨h1.at_, h1.ok, hb.trans (h1.below.mono hb.size), Nat.le_trans hb.size h1.hb, Nat.le_trans hb.size h1.hc, Nat.le_trans hb.size h1.hr⟩, h2, h3, h4, fun g l hg => let ⟨q1, q2, q3⟩ := h5 g l hg; ⟨q1, Nat.le_trans hb.size q2, q3⟩⟩
theorem NumL.lower {w w1 w2 : World} {b c r : Nat} {G : List (Nat × List Sw)} {ad : Option Addr} {l : List Int} (h : NumL w1 b c r G w2 ad l) (hb : w.heap.size ≤ w1.heap.size) : NumL w b c r G w2 ad l :=
  h.imp (fun h => h) fun ⟨g, e, hl, hc⟩ => ⟨g, e, ⟨hl.lt, Nat.le_trans hb hl.ge, hl.ne, hl.ng⟩, hc⟩
theorem RgL.lower {w w1 w2 : World} {b c r : Nat} {G : List (Nat × List Sw)} {R : Rg} {S P : List Int} (h : RgL w1 b c r G w2 R S P) (hb : w.heap.size ≤ w1.heap.size) : RgL w b c r G w2 R S P := ⟨h.sn, h.pn, h.sf, h.pf, h.s.lower hb, h.p.lower hb⟩
/-- At the loop's head: i acts were done, at most n ids were told. -/
structure LMid (w : World) (B0 : Nat) (b c r zy zw : Nat) (R : Rg) (S P : List Int) (i n : Nat) (ids : List Int) (v : Value) (G : List (Nat × List Sw)) (m : M) (V : Int) (A : List Int) (B : List (Int × Int)) (x : Rs) (wr : World) : Prop where
  has : HasE w b c r G wr m
  rm : RM (2 * (i : Int)) m R.top S P V A B
  rg : RgL w b c r G wr R S P
  y : YVar wr zy b R
  ly : LocM w b c r G wr zy
  bx : V3 wr zw V (.slice x.sa S.length x.sc) (.slice x.pa P.length x.pc)
  lw : LocM w b c r G wr zw
  ne : zy ≠ zw ∧ zy < B0 ∧ zw < B0
  is : RIs (fun z => LocM w b c r G wr z ∧ z ≠ zw ∧ v.ownBlock ≠ some z) wr x A B
  own : OwnI wr B0 v ids
  lo : ∀ k, v.ownBlock = some k → LocM w b c r G wr k
  rs : ∀ g, R.sa = some ⟨g, 0, none⟩ → S ≠ [] → g ≠ zw ∧ g < B0
  rp : ∀ g, R.pa = some ⟨g, 0, none⟩ → P ≠ [] → g ≠ zw ∧ g < B0
  hV : 0 ≤ V ∧ V ≤ 40 * (i : Int)
  cnt : m.count ≤ 300 + 420 * (i : Int)
  idb : ∀ z ∈ ids, -1 ≤ z ∧ z ≤ 100000000
  len : ids.length ≤ n
  bs : B0 ≤ wr.heap.size
section
variable {w : World} {B0 b c r zy zw : Nat} {R : Rg} {S P : List Int} {i n n' : Nat} {ids : List Int} {v v' : Value} {G G1 : List (Nat × List Sw)} {m m1 : M} {V V1 : Int} {A A1 : List Int} {B B1 : List (Int × Int)} {x x' : Rs} {wr w1 w2 : World} {to : Int}
theorem LMid.below (h : LMid w B0 b c r zy zw R S P i n ids v G m V A B x wr) : Below w.heap.size w wr := h.has.ge.2.2.2
theorem LMid.more (h : LMid w B0 b c r zy zw R S P i n ids v G m V A B x wr) (hn : n ≤ n') : LMid w B0 b c r zy zw R S P i n' ids v G m V A B x wr :=
  { h with len := Nat.le_trans h.len hn }
theorem LMid.later (h : LMid w B0 b c r zy zw R S P i n ids v G m V A B x wr) (hb : Below wr.heap.size wr w1) : LMid w B0 b c r zy zw R S P i n ids v G m V A B x w1 :=
  { has := h.has.later hb, rm := h.rm, rg := h.rg.later hb, y := h.y.same (hb.block _ h.ly.lt), ly := h.ly.later hb.size (Grow.refl _ _), bx := h.bx.same (hb.block _ h.lw.lt), lw := h.lw.later hb.size (Grow.refl _ _), ne := h.ne,
    is := h.is.keep (fun _ hz _ => ⟨hz.1.later hb.size (Grow.refl _ _), hz.2⟩) hb.size (fun z _ hl => hb.block z hl), own := h.own.below hb, lo := fun k hk => (h.lo k hk).later hb.size (Grow.refl _ _),
    rs := h.rs, rp := h.rp, hV := h.hV, cnt := h.cnt, idb := h.idb, len := h.len, bs := Nat.le_trans h.bs hb.size }
theorem LMid.ownne (h : LMid w B0 b c r zy zw R S P i n ids v G m V A B x wr) {k : Nat} (hk : v.ownBlock = some k) : k ≠ zw := by
  have := (h.own.lt k hk).1
  have := h.ne.2.2
  omega
/-- Across a call: memory, register and the reference's register are others. -/
theorem LMid.over (h : LMid w B0 b c r zy zw R S P i n ids v G m V A B x wr) (but : ButN [b, c, r] wr.heap.size wr w1) (gro : Grow wr G G1) (has : HasE w b c r G1 w1 m1) (rm : RM (2 * ((i + 1 : Nat) : Int)) m1 R.top S P V1 A1 B1) (is : RIs (fun z => LocM w b c r G1 w1 z ∧ z ≠ zw ∧ v.ownBlock ≠ some z) w1 x' A1 B1)
    (hV : 0 ≤ V1 ∧ V1 ≤ 40 * ((i + 1 : Nat) : Int)) (cnt : m1.count ≤ m.count + 420) (hb2 : Below w1.heap.size w1 w2) :
    V3 w2 zw V (.slice x.sa S.length x.sc) (.slice x.pa P.length x.pc) ∧ YVar w2 zy b R ∧ ∀ W, But zw w2 W → V3 W zw V1 (.slice x'.sa S.length x'.sc) (.slice x'.pa P.length x'.pc) → LMid w B0 b c r zy zw R S P (i + 1) n ids v G1 m1 V1 A1 B1 x' W := by
  have k : ∀ z, LocM w b c r G wr z → w2.heap[z]? = wr.heap[z]? := fun z hz => (hb2.block z (Nat.lt_of_lt_of_le hz.lt but.size)).trans (but.block z hz.lt (by have := hz.ne; simp; omega))
  have sz2 := Nat.le_trans but.size hb2.size
  refine ⟨h.bx.same (k _ h.lw), h.y.same (k _ h.ly), fun W hB hx => ?_⟩
  have sz := Nat.le_trans sz2 hB.size
  have kW : ∀ z, LocM w b c r G wr z → z ≠ zw → W.heap[z]? = wr.heap[z]? := fun z hz hne => (hB.block z (Nat.lt_of_lt_of_le hz.lt sz2) (fun e => hne e)).trans (k z hz)
  have lW := h.lw.later but.size gro
  have num : ∀ ad (l : List Int), (∀ g, ad = some ⟨g, 0, none⟩ → l ≠ [] → g ≠ zw ∧ g < B0) → NumL w b c r G wr ad l → NumL w b c r G1 W ad l := fun ad l hne hN => by
    rcases hN with e | ⟨g, e, hl, hc⟩
    · exact .inl e
    · by_cases h0 : l = []
      · exact .inl h0
      · exact .inr ⟨g, e, hl.later sz gro, fun j y hy => (World.cell?_of_block (w := wr) (a := ⟨g, j, none⟩) (kW g hl (hne g e h0).1)).trans (hc j y hy)⟩
  exact {
    has := (has.later hb2).aside hB ⟨lW.ne.1, lW.ne.2.1, lW.ne.2.2, lW.ge, lW.ng⟩
    rm := rm
    rg := ⟨h.rg.sn, h.rg.pn, h.rg.sf, h.rg.pf, num _ _ h.rs h.rg.s, num _ _ h.rp h.rg.p⟩
    y := h.y.same (kW _ h.ly h.ne.1)
    ly := h.ly.later sz gro
    bx := hx
    lw := h.lw.later sz gro
    ne := h.ne
    is := is.keep (fun z hz _ => ⟨hz.1.later (Nat.le_trans hb2.size hB.size) (Grow.refl _ _), hz.2⟩) (Nat.le_trans hb2.size hB.size) (fun z hz hl => (hB.block z (Nat.lt_of_lt_of_le hl hb2.size) (fun e => hz.2.1 e)).trans (hb2.block z hl))
    own := h.own.of fun z hz => kW z (h.lo z hz) (h.ownne hz)
    lo := fun z hz => (h.lo z hz).later sz gro
    rs := h.rs
    rp := h.rp
    hV := hV
    cnt := by have := h.cnt; push_cast; omega
    idb := h.idb
    len := h.len
    bs := Nat.le_trans h.bs sz }
/-- An id more. -/
theorem LMid.tell (h : LMid w B0 b c r zy zw R S P i n ids v G m V A B x wr) (hb : Below wr.heap.size wr w1) (own : OwnI w2 B0 v' (ids ++ [to])) (hg : w1.grownBy w2 v.ownBlock) (hn : v'.ownBlock = v.ownBlock ∨ v'.ownBlock = some w1.heap.size) (ht : -1 ≤ to ∧ to ≤ 100000000) :
    LMid w B0 b c r zy zw R S P i (n + 1) (ids ++ [to]) v' G m V A B x w2 := by
  have h1 := h.later hb
  have kp : ∀ z, LocM w b c r G w1 z → v.ownBlock ≠ some z → w2.heap[z]? = w1.heap[z]? := fun z hz hne => hg.block z hz.lt (fun e => hne e.symm)
  have hz2 := hg.size
  have lowne : ∀ z, z < B0 → v.ownBlock ≠ some z := fun z hz e => by have := (h1.own.lt z e).1; omega
  have hE : HasE w b c r G w2 m := by
    cases e : v.ownBlock with
    | none => exact h1.has.later ⟨hg.os, hg.tape, hg.output, hg.size, fun k hk => hg.block k hk (by rw [e]; exact fun e => (by cases e))⟩
    | some z =>
      have l := h1.lo z e
      exact h1.has.aside (z := z) ⟨hg.os, hg.tape, hg.output, hg.size, fun k hk hne => hg.block k hk (by rw [e]; exact fun e2 => hne (by cases e2; rfl))⟩ ⟨l.ne.1, l.ne.2.1, l.ne.2.2, l.ge, l.ng⟩
  have num : ∀ ad (l : List Int), (∀ g, ad = some ⟨g, 0, none⟩ → l ≠ [] → g ≠ zw ∧ g < B0) → NumL w b c r G w1 ad l → NumL w b c r G w2 ad l := fun ad l hne hN => by
    rcases hN with e | ⟨g, e, hl, hc⟩
    · exact .inl e
    · by_cases h0 : l = []
      · exact .inl h0
      · exact .inr ⟨g, e, hl.later hz2 (Grow.refl _ _), fun j y hy => (World.cell?_of_block (w := w1) (a := ⟨g, j, none⟩) (kp g hl (lowne g (hne g e h0).2))).trans (hc j y hy)⟩
  exact {
    has := hE
    rm := h.rm
    rg := ⟨h.rg.sn, h.rg.pn, h.rg.sf, h.rg.pf, num _ _ h.rs h1.rg.s, num _ _ h.rp h1.rg.p⟩
    y := h1.y.same (kp _ h1.ly (lowne _ h.ne.2.1))
    ly := h1.ly.later hz2 (Grow.refl _ _)
    bx := h1.bx.same (kp _ h1.lw (lowne _ h.ne.2.2))
    lw := h1.lw.later hz2 (Grow.refl _ _)
    ne := h.ne
    is := h1.is.keep (fun z hz hl => ⟨hz.1.later hz2 (Grow.refl _ _), hz.2.1, fun e => by
      rcases hn with e2 | e2
      · rw [e2] at e; exact hz.2.2 e
      · rw [e2] at e; cases e; omega⟩) hz2 (fun z hz hl => kp z hz.1 hz.2.2)
    own := own
    lo := fun k hk => by
      rcases hn with e2 | e2
      · rw [e2] at hk; exact (h1.lo k hk).later hz2 (Grow.refl _ _)
      · have := (own.lt k hk).2
        rw [e2] at hk; cases hk
        exact h1.has.locge (Nat.le_refl _) this
    rs := h.rs
    rp := h.rp
    hV := h.hV
    cnt := h.cnt
    idb := fun z hz => (List.mem_append.1 hz).elim (h.idb z) fun e => by simp at e; subst e; exact ht
    len := by simp; exact h.len
    bs := Nat.le_trans h1.bs hz2 }
end
/-- Init refuses. -/
theorem enter_10 (xs : Array Value) (w : World) : (callFunc 10 xs).run Tryd.prog w = .ok (.enter 10 xs) w := by kernel_rfl
set_option maxHeartbeats 2000000 in
theorem bad1_any {w0 w : World} {b c r : Nat} {G : List (Nat × List Sw)} {za zk : Nat} {m : M} (a d : Int) (hbad : a < 1 ∨ 64 < a ∨ d < 0 ∨ 64 < d) (h : HasE w0 b c r G w m) (hc : m.count ≤ 600000) (hT : TabAt w0)
    (ca : w.cell? ⟨za, 0, none⟩ = some (.int .i64 a)) (cb : w.cell? ⟨zk, 0, none⟩ = some (.int .i64 d)) :
    Calls Tryd.prog 10 (#[.pointer (some ⟨w.heap.size, 0, none⟩)] ++ #[.pointer (some ⟨za, 0, none⟩), .pointer (some ⟨zk, 0, none⟩)]) (w.alloc (portObj b)) fun e w' => ∃ u, e = .returned u ∧ u = .iface 4 (.bool true) ∧ ButN [b, c, r] w.heap.size w w' ∧ ∃ G1, HasE w0 b c r G1 w' m := by
  have hD := Dgo.start h (Z := [b, c, r]) ⟨by simp, by simp, by simp⟩
  have hb0 := (Below.refl w.heap.size w).alloc (Nat.le_refl _) (portObj b)
  have hi := initr_E hD.sys hT hc 1 a d
  have hza := World.block_lt_of_cell? w _ ca
  have hzb := World.block_lt_of_cell? w _ cb
  have c1 := (hb0.cell (p := ⟨za, 0, none⟩) hza).trans ca
  have c2 := (hb0.cell (p := ⟨zk, 0, none⟩) hzb).trans cb
  have HD := Lib.hid hD
  have HP : Hid ((initRP a d).go m = (([], [], 10), m)) := by unfold Hid initRP; rw [if_pos hbad]; rfl
  have hmk := mkb4
  show Calls Tryd.prog 10 #[.pointer (some ⟨w.heap.size, 0, none⟩), .pointer (some ⟨za, 0, none⟩), .pointer (some ⟨zk, 0, none⟩)] (w.alloc (portObj b)) _
  clear h hb0 ca cb hD hbad hza hzb
  generalize hwp : w.alloc (portObj b) = wp at *
  go_enter Tryd.func10, Tryd.ntmps10
  go_wp2_with fail
  refine hi.mono ?_
  rintro e w1 hE
  obtain ⟨t1, G1, v, rfl, ⟨us, up, rfl, hus, hup⟩, ha1⟩ := hE.done (ptDo_quiet w b)
  rw [HP.out] at hus hup ha1 ⊢
  simp only at hus hup ha1 ⊢
  have hD1 := HD.out.aft ha1
  obtain ⟨ua, uc, rfl⟩ := lenz hus
  obtain ⟨pa, pc, rfl⟩ := lenz hup
  have HF : Hid (∀ o, ButN [b, c, r] w.heap.size w (w1.alloc o) ∧ ∃ G1, HasE w0 b c r G1 (w1.alloc o) m) := fun o => by
    have hD2 := hD1.later ((Below.refl w1.heap.size w1).alloc (Nat.le_refl _) o)
    exact ⟨hD2.but, G1, hD2.sys.mem⟩
  clear hi hE hus hup ha1 hD1 c1 c2 HD
  go_wp2
  go_ret
  exact ⟨_, rfl, rfl, HF.out _⟩
end Go.Proofs.YtgjkkbgdkdipgaaDoor
