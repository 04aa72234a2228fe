/- BatchWithin's law: at any entries and three spans it answers true. Condition: none but that the entries can be read. -/
import Derived.Test.YthglldnhffkefaaBWalkJ
namespace Go.Proofs.Ythglldnhffkefaa
open Go.RowKit Go.Op
set_option maxRecDepth 100000

/-- While the program's row of spans is made and the batch parted. -/
def W4S (wq : World) (b : Nat) (x y z : Sp) (D : List (List En)) : List Bool → (Nat → Value) → World → Prop
  | [b7, b8], β, W => (Three b W x y z ∧ Below wq.heap.size wq W) ∧ (b7 = true → b8 = false → ∃ g, β 7 = .slice (some ⟨g, 0, none⟩) 3 3 ∧ Sps W (some ⟨g, 0, none⟩) [x, y, z]) ∧ (b8 = true → ∃ gp, β 8 = .slice (some ⟨gp, 0, none⟩) 3 3 ∧ PRow wq.heap.size W gp 3 D)
  | _, _, _ => False
section
variable {wq w : World} {b : Nat} {x y z : Sp} {D : List (List En)} {bs : List Bool} {β : Nat → Value}
theorem three_drew (h : Three b w x y z) : Three b w.drew x y z := h
theorem w4_start (h : Three b wq x y z) : W4S wq b x y z D [false, false] β wq.drew := ⟨⟨three_drew h, drew_below (Below.refl _ _)⟩, fun h => (by cases h), fun h => (by cases h)⟩
theorem W4S.on {w' : World} (h : W4S wq b x y z D bs β w) (hb : Below w.heap.size w w') : W4S wq b x y z D bs β w' := by
  match bs, h with
  | [b7, b8], ⟨⟨q1, q2⟩, q3, q4⟩ =>
    exact ⟨⟨q1.on hb, q2.trans (hb.mono q2.size)⟩, fun h1 h2 => by
      obtain ⟨g, e, hs⟩ := q3 h1 h2
      exact ⟨g, e, hs.below hb⟩, fun h1 => by
      obtain ⟨g, e, hs⟩ := q4 h1
      exact ⟨g, e, hs.below hb⟩⟩
theorem W4S.t (h : W4S wq b x y z D bs β w) : Three b w x y z ∧ Below wq.heap.size wq w := by
  match bs, h with
  | [b7, b8], ⟨q, _⟩ => exact q
theorem of_keep4 (s : Sp) (h : W4S wq b x y z D bs β w) : Calls Try.prog 17 #[s.v] w fun e w' => e = .returned s.v ∧ W4S wq b x y z D bs β w' :=
  (of_any s w).mono fun _ _ g => ⟨g.1, h.on g.2⟩
theorem w4_row (h : W4S wq b x y z D bs β w) (_h7 : bs[0]? = some false) (h8 : bs[1]? = some false) : ∃ u w', (Instr.buildSlice 62 3 #[(0, x.v), (1, y.v), (2, z.v)]).run Try.prog w = .ok u w' ∧ W4S wq b x y z D (bs.set 0 true) (FreeU.upd β 7 u) w' := by
  match bs, h with
  | [b7, b8], ⟨⟨q1, q2⟩, _, _⟩ =>
    simp only [List.getElem?_cons_succ, List.getElem?_cons_zero, Option.some.injEq] at h8
    subst h8
    have hb := (Below.refl w.heap.size w).alloc (Nat.le_refl _) (.cells #[.string x.lo, .string x.hi, .bool x.all, .string y.lo, .string y.hi, .bool y.all, .string z.lo, .string z.hi, .bool z.all] 44)
    exact ⟨_, _, build_spans x y z w, ⟨q1.on hb, q2.trans (hb.mono q2.size)⟩, fun _ _ => ⟨_, rfl, sps_three w x y z 44⟩, fun h => (by cases h)⟩
theorem w4_get {E : Value} (h : W4S wq b x y z D bs β w) (h7 : bs[0]? = some true) (h8 : bs[1]? = some false)
    (hp : ∀ W g, Below wq.heap.size wq W → Sps W (some ⟨g, 0, none⟩) [x, y, z] → Calls Try.prog 16 #[E, .slice (some ⟨g, 0, none⟩) 3 3] W fun e w' => ∃ gp, e = .returned (.slice (some ⟨gp, 0, none⟩) 3 3) ∧ PRow W.heap.size w' gp 3 D ∧ Below W.heap.size W w') :
    Calls Try.prog 16 #[E, β 7] w fun e w' => ∃ u, e = .returned u ∧ W4S wq b x y z D (bs.set 1 true) (FreeU.upd β 8 u) w' := by
  match bs, h with
  | [b7, b8], ⟨⟨q1, q2⟩, q3, _⟩ =>
    simp only [List.getElem?_cons_succ, List.getElem?_cons_zero, Option.some.injEq] at h7 h8
    obtain ⟨g, e, hs⟩ := q3 h7 h8
    rw [e]
    refine (hp w g q2 hs).mono ?_
    rintro e w' ⟨gp, rfl, hr, hb⟩
    exact ⟨_, rfl, ⟨q1.on hb, q2.trans (hb.mono q2.size)⟩, fun _ h => (by cases h), fun _ => ⟨gp, rfl, hr.lower q2.size⟩⟩
end
/-- While the first span's entries are compared. -/
def W6S (wq : World) (b : Nat) (x y z : Sp) (l : List En) : List Bool → (Nat → Value) → World → Prop
  | [b3], β, W => (Three b W x y z ∧ Below wq.heap.size wq W) ∧ (b3 = true → OwnE 37 W wq.heap.size (β 3) (withinL l x))
  | _, _, _ => False
section
variable {wq w : World} {b : Nat} {x y z : Sp} {l : List En} {bs : List Bool} {β : Nat → Value}
theorem w6_start (h : Three b wq x y z) : W6S wq b x y z l [false] β wq.drew := ⟨⟨three_drew h, drew_below (Below.refl _ _)⟩, fun h => (by cases h)⟩
theorem W6S.on {w' : World} (h : W6S wq b x y z l bs β w) (hb : Below w.heap.size w w') : W6S wq b x y z l bs β w' := by
  match bs, h with
  | [b3], ⟨⟨q1, q2⟩, q3⟩ => exact ⟨⟨q1.on hb, q2.trans (hb.mono q2.size)⟩, fun h1 => (q3 h1).below hb⟩
theorem W6S.t (h : W6S wq b x y z l bs β w) : Three b w x y z ∧ Below wq.heap.size wq w := by
  match bs, h with
  | [b3], ⟨q, _⟩ => exact q
theorem of_keep6 (s : Sp) (h : W6S wq b x y z l bs β w) : Calls Try.prog 17 #[s.v] w fun e w' => e = .returned s.v ∧ W6S wq b x y z l bs β w' :=
  (of_any s w).mono fun _ _ g => ⟨g.1, h.on g.2⟩
theorem w6_get {xa : Option Addr} {xc : Nat} (h : W6S wq b x y z l bs β w) (_h3 : bs[0]? = some false) (hx : Cut wq xa l xc) (hl : l.length ≤ 1000000) :
    Calls Try.prog 19 #[.slice xa l.length xc, x.v] w fun e w' => ∃ u, e = .returned u ∧ W6S wq b x y z l (bs.set 0 true) (FreeU.upd β 3 u) w' := by
  match bs, h with
  | [b3], ⟨⟨q1, q2⟩, _⟩ =>
    refine (within_any xa l xc x w hl (hx.below q2)).mono ?_
    rintro e w' ⟨v, rfl, ho, hb⟩
    exact ⟨_, rfl, ⟨q1.on hb, q2.trans (hb.mono q2.size)⟩, fun _ => ho.lower q2.size⟩
theorem w6_ref {a : Option Addr} {c wn : Nat} (h : W6S wq b x y z l bs β w) (hr : ∀ W, Below wq.heap.size wq W → Calls Try.prog 20 #[.slice a l.length c, x.v] W fun e w' => e = .returned (.slice a wn c) ∧ Below W.heap.size W w') :
    Calls Try.prog 20 #[.slice a l.length c, x.v] w fun e w' => e = .returned (.slice a wn c) ∧ W6S wq b x y z l bs β w' :=
  (hr w h.t.2).mono fun _ _ g => ⟨g.1, h.on g.2⟩
theorem w6_same {a : Option Addr} {c wn : Nat} (h : W6S wq b x y z l bs β w) (h3 : bs[0]? = some true) (hC : Cut wq a l c) (hw : wn = wN l x) (hl : l.length ≤ 1000000) :
    Calls Try.prog 12 #[β 3, .slice a wn c] w fun e w' => e = .returned (.int .i64 (1 : Int)) ∧ W6S wq b x y z l bs β w' := by
  have h' := h
  match bs, h with
  | [b3], ⟨⟨q1, q2⟩, q3⟩ =>
    simp only [List.getElem?_cons_zero, Option.some.injEq] at h3
    obtain ⟨ga, gc, e, hg, _, _⟩ := (q3 h3).sl
    have hwl := within_length l x
    have hwn := wN_le l x
    have := same_any ga a (withinL l x) gc c w (by omega) hg.e ((hC.below q2).take (wN l x)).e
    rw [hwl, ← hw] at this
    rw [e, hwl, ← hw]
    exact this.mono fun _ _ g => ⟨g.1, h'.on g.2⟩
end
theorem same_keep {w W : World} {pa qa : Option Addr} {m pc qc : Nat} (M : List En) (hM : M.length = m) (hm : m ≤ 1000000) (h : Below w.heap.size w W) (hp : Ents w pa M) (hq : Ents w qa M) :
    Calls Try.prog 12 #[.slice pa m pc, .slice qa m qc] W fun e w' => e = .returned (.int .i64 (1 : Int)) ∧ Below w.heap.size w w' := by
  have := same_any pa qa M pc qc W (by omega) (hp.below h) (hq.below h)
  rw [hM] at this
  exact this.mono fun _ _ g => ⟨g.1, h.trans (g.2.mono h.size)⟩

set_option maxHeartbeats 4000000 in
theorem within_law (a : Option Addr) (l : List En) (c : Nat) (x y z : Sp) (w : World) (hC : Cut w a l c) :
    Calls Try.prog 5 #[.slice a l.length c, x.v, y.v, z.v] w fun e w' => e = .returned (.bool true) ∧ Below w.heap.size w w' := by
  have HC := Lib.hid hC
  have haw := awake_any
  have HT0 := Lib.hid (three_new w x y z 40)
  have HB0 : Hid (Below w.heap.size w (((w.alloc (.cells #[.string x.lo, .string x.hi, .bool x.all] 40)).alloc (.cells #[.string y.lo, .string y.hi, .bool y.all] 40)).alloc (.cells #[.string z.lo, .string z.hi, .bool z.all] 40))) := Lib.hid ((((Below.refl _ _).alloc (Nat.le_refl _) _).alloc (by simp) _).alloc (by simp; omega) _)
  have mixed : Try.prog.follows .mixedOrders = true := by kernel_rfl
  have hvx : x.v = .agg #[.string x.lo, .string x.hi, .bool x.all] := rfl
  have hvy : y.v = .agg #[.string y.lo, .string y.hi, .bool y.all] := rfl
  have hvz : z.v = .agg #[.string z.lo, .string z.hi, .bool z.all] := rfl
  rw [hvx, hvy, hvz]
  clear hvx hvy hvz hC
  by_cases hf : FewE l
  · have HF : Hid (∀ w', Below w.heap.size w w' → Calls Try.prog 8 #[.slice a l.length c] w' fun e w2 => e = .returned (.int .i64 1) ∧ w' = w2) := Lib.hid (fun w' hb => by
      have := few_any a l c w' (HC.out.e.below hb)
      rwa [fewE_yes hf] at this)
    have HL : Hid (l.length ≤ 1000000) := Lib.hid (by have := hf.1; omega)
    have HK : Hid (∀ e ∈ l, e.key.size ≤ 1000000) := Lib.hid (fun e he => by have := (hf.2 e he).1; omega)
    by_cases hs : ShP [x, y, z]
    · have HS1 := Lib.hid hs
      clear hf hs
      go_enter Try.func5, Try.ntmps5
      go_wp2_with fail
      refine (haw _).mono ?_
      rintro e w1 ⟨rfl, b1⟩
      have HT1 := Lib.hid (HT0.out.on b1)
      have HB1 := Lib.hid (HB0.out.trans (b1.mono HB0.out.size))
      have hfe := HF.out w1 HB1.out
      clear b1 HB0 HT0
      go_wp2_with fail
      refine hfe.mono ?_
      rintro e w1' ⟨rfl, rfl⟩
      obtain ⟨c1, c2, c3, c4, c5, c6, c7, c8, c9⟩ := HT1.out.cells
      have hsh := short_any (some ⟨w1.heap.size, 0, none⟩) [x, y, z] 3 _ (by simp) (sps_three w1 x y z 40)
      rw [sh_yes HS1.out] at hsh
      simp only [List.length_cons, List.length_nil, Nat.zero_add, Nat.reduceAdd] at hsh
      clear hfe
      go_wp2_with fail
      refine hsh.mono ?_
      rintro e w2 ⟨rfl, hw2⟩
      have hb2 : Below w1.heap.size w1 w2 := by rw [← hw2]; exact (Below.refl _ _).alloc (Nat.le_refl _) _
      have HT2 := Lib.hid (HT1.out.on hb2)
      have HB2 := Lib.hid (HB1.out.trans (hb2.mono HB1.out.size))
      clear c1 c2 c3 c4 c5 c6 c7 c8 c9 hb2 hsh hw2 HT1 HB1
      have ho := lawof_any a l c w2 HL.out (HC.out.e.below HB2.out)
      go_wp2_with fail
      refine ho.mono ?_
      rintro e w3 ⟨v, rfl, hown, b3⟩
      obtain ⟨xa, xc, rfl, hcut, _, _⟩ := hown.sl
      obtain ⟨wq, hwq⟩ : ∃ wq, wq = w3 := ⟨_, rfl⟩
      subst hwq
      have HT4 := Lib.hid (HT2.out.on b3)
      have HB3 := Lib.hid (HB2.out.trans (b3.mono HB2.out.size))
      have HX4 := Lib.hid hcut
      obtain ⟨D, hD⟩ : ∃ D, D = partsL (sortL l) [x, y, z] := ⟨_, rfl⟩
      have hD3 : D.length = 3 := by rw [hD, parts_length]; rfl
      have HD := Lib.hid hD
      have HP4 : Hid (∀ W g, Below wq.heap.size wq W → Sps W (some ⟨g, 0, none⟩) [x, y, z] → Calls Try.prog 16 #[.slice xa l.length xc, .slice (some ⟨g, 0, none⟩) 3 3] W fun e w' => ∃ gp, e = .returned (.slice (some ⟨gp, 0, none⟩) 3 3) ∧ PRow W.heap.size w' gp 3 D ∧ Below W.heap.size W w') := Lib.hid (fun W g hb hsp => by
        have := parts_any xa l xc (some ⟨g, 0, none⟩) [x, y, z] 3 W HL.out (by simp) (HX4.out.below hb).e HX4.out.none hsp
        rw [← HD.out] at this
        exact this)
      have HD3 := Lib.hid hD3
      clear ho hown b3 hcut hD hD3 HT2
      go_wp2_with fail
      refine FreeU.region_puts (S := W4S wq w.heap.size x y z D) (effs := [7, 8])
        (tab := [⟨1, fun _ => [.pointer (some ⟨w.heap.size, 0, none⟩)], fun _ => x.v, .read⟩,
          ⟨2, fun _ => [.func (.func 17) #[] #[], x.v], fun _ => x.v, .ask⟩,
          ⟨3, fun _ => [.pointer (some ⟨w.heap.size + 1, 0, none⟩)], fun _ => y.v, .read⟩,
          ⟨4, fun _ => [.func (.func 17) #[] #[], y.v], fun _ => y.v, .ask⟩,
          ⟨5, fun _ => [.pointer (some ⟨w.heap.size + 1 + 1, 0, none⟩)], fun _ => z.v, .read⟩,
          ⟨6, fun _ => [.func (.func 17) #[] #[], z.v], fun _ => z.v, .ask⟩,
          ⟨7, fun _ => [x.v, y.v, z.v], fun β => (β 7), .eff⟩,
          ⟨8, fun β => [.func (.func 16) #[] #[], .slice xa l.length xc, (β 7)], fun β => (β 8), .get⟩])
        (vs := [([], fun _ => .slice xa l.length xc), ([], fun _ => x.v), ([], fun _ => x.v), ([], fun _ => y.v), ([], fun _ => y.v), ([], fun _ => z.v), ([], fun _ => z.v), ([7], fun l => l.headD undef), ([8], fun l => l.headD undef), ([8], fun l => l.headD undef)])
        (by kernel_rfl) ⟨by kernel_rfl, ⟨FreeU.d_load _ rfl rfl (fun β bs w h hd => load_40 ((W4S.t h).1.1)),
          FreeU.d_ask1 _ rfl rfl enter_17 (fun β bs w h hd => of_keep4 x h),
          FreeU.d_load _ rfl rfl (fun β bs w h hd => load_40 ((W4S.t h).1.2.1)),
          FreeU.d_ask1 _ rfl rfl enter_17 (fun β bs w h hd => of_keep4 y h),
          FreeU.d_load _ rfl rfl (fun β bs w h hd => load_40 ((W4S.t h).1.2.2.1)),
          FreeU.d_ask1 _ rfl rfl enter_17 (fun β bs w h hd => of_keep4 z h),
          FreeU.d_row3 _ rfl rfl 0 rfl (fun β bs w h hd => w4_row h ((hd 0 7 rfl).2 (.inr rfl)) ((hd 1 8 rfl).2 (.inl (by kernel_rfl)))),
          FreeU.d_get2 _ rfl rfl enter_16 1 rfl (fun β bs w h hd => w4_get h ((hd 0 7 rfl).1 (by kernel_rfl)) ((hd 1 8 rfl).2 (.inr rfl)) HP4.out),
          trivial⟩,
          fun β => by kernel_rfl, fun β => by kernel_rfl, by kernel_rfl, fun β => by kernel_rfl, by kernel_rfl⟩ (w4_start HT4.out) (fun β => Free.from_ 31 [.slice xa l.length xc, x.v, x.v, y.v, y.v, z.v, z.v, (β 7), (β 8)] ++ [(10, (β 8))]) (fun β => by kernel_rfl) ?_
      intro β w4 h4
      rw [FreeX.puts_append, Free.puts_from _ _ _ (Nat.le_of_ble_eq_true rfl)]
      simp only [List.take_succ_cons, List.take_zero, List.drop_succ_cons, List.drop_zero, List.cons_append, List.nil_append, List.length_cons, List.length_nil, Nat.reduceAdd]
      unfold Free.puts
      simp only [List.foldl_cons, List.foldl_nil]
      obtain ⟨gp, e8, hrow⟩ := h4.2.2 rfl
      rw [e8]
      have HT5 := Lib.hid h4.1.1
      have HB4 := Lib.hid (HB3.out.trans (h4.1.2.mono HB3.out.size))
      have HX5 := Lib.hid (HX4.out.below h4.1.2)
      have HRP := Lib.hid (hrow.rd HD3.out)
      obtain ⟨c1, c2, c3, c4, c5, c6, c7, c8, c9⟩ := HT5.out.cells
      have hrp := refparts_any a l c (some ⟨w4.heap.size, 0, none⟩) [x, y, z] 3 (w4.alloc (.cells #[.string x.lo, .string x.hi, .bool x.all, .string y.lo, .string y.hi, .bool y.all, .string z.lo, .string z.hi, .bool z.all] 40)) HL.out (by simp) HK.out (fun s hs => by have := HS1.out s hs; omega) (HC.out.e.below (HB4.out.alloc HB4.out.size _)) (sps_three w4 x y z 40)
      rw [← HD.out] at hrp
      simp only [List.length_cons, List.length_nil, Nat.zero_add, Nat.reduceAdd] at hrp
      clear h4 e8 hrow HT4 HX4
      go_wp2_with fail
      refine hrp.mono ?_
      rintro e w5 ⟨v, wo, rfl, hq, hbq, b5⟩
      have hb45 : Below w4.heap.size w4 w5 := ((Below.refl _ _).alloc (Nat.le_refl _) _).trans (b5.mono (by simp))
      obtain ⟨gq, qc, eq, hrd⟩ := hq.rd hbq (fun h => by have := HD3.out; rw [h] at this; cases this)
      rw [HD3.out] at eq
      rw [eq]
      obtain ⟨wq, hwq⟩ : ∃ wq, wq = w5 := ⟨_, rfl⟩
      subst hwq
      have HT6 := Lib.hid (HT5.out.on hb45)
      have HB5 := Lib.hid (HB4.out.trans (hb45.mono HB4.out.size))
      have HX6 := Lib.hid (HX5.out.below hb45)
      have HC6 := Lib.hid (HC.out.below HB5.out)
      have HP6 := Lib.hid (HRP.out.on hb45)
      have HQ6 := Lib.hid hrd
      obtain ⟨wn, hwn⟩ : ∃ wn, wn = wN l x := ⟨_, rfl⟩
      have HWN := Lib.hid hwn
      have HR6 : Hid (∀ W, Below wq.heap.size wq W → Calls Try.prog 20 #[.slice a l.length c, x.v] W fun e w' => e = .returned (.slice a wn c) ∧ Below W.heap.size W w') := Lib.hid (fun W hb => by
        have := refwithin_any a l c x W HL.out HK.out (by have := HS1.out x (by simp); omega) (by have := HS1.out x (by simp); omega) (HC6.out.below hb)
        rwa [← HWN.out] at this)
      clear c1 c2 c3 c4 c5 c6 c7 c8 c9 hq hbq b5 hb45 eq hrd hwn hrp HT5 HB4 HX5 HRP
      go_wp2_with fail
      refine FreeU.region_puts (S := W6S wq w.heap.size x y z l) (effs := [3])
        (tab := [⟨1, fun _ => [.pointer (some ⟨w.heap.size, 0, none⟩)], fun _ => x.v, .read⟩,
          ⟨2, fun _ => [.func (.func 17) #[] #[], x.v], fun _ => x.v, .ask⟩,
          ⟨3, fun _ => [.func (.func 19) #[] #[], .slice xa l.length xc, x.v], fun β => (β 3), .get⟩,
          ⟨5, fun _ => [.pointer (some ⟨w.heap.size, 0, none⟩)], fun _ => x.v, .read⟩,
          ⟨6, fun _ => [.func (.func 20) #[] #[], .slice a l.length c, x.v], fun _ => .slice a wn c, .ask⟩,
          ⟨7, fun β => [.func (.func 12) #[] #[], (β 3), .slice a wn c], fun _ => .int .i64 (1 : Int), .ask⟩,
          ⟨8, fun _ => [.int .i64 (1 : Int), .int .i64 0], fun _ => .bool false, .pure⟩,
          ⟨11, fun _ => [.slice (some ⟨gp, 0, none⟩) 3 3], fun _ => .int .i64 ((3 : Nat) : Int), .pure⟩,
          ⟨13, fun _ => [.slice (some ⟨gq, 0, none⟩) 3 qc], fun _ => .int .i64 ((3 : Nat) : Int), .pure⟩,
          ⟨14, fun _ => [.int .i64 ((3 : Nat) : Int), .int .i64 ((3 : Nat) : Int)], fun _ => .bool false, .pure⟩])
        (vs := [([], fun _ => .slice xa l.length xc), ([], fun _ => x.v), ([], fun _ => x.v), ([3], fun l => l.headD undef), ([], fun _ => .slice a l.length c), ([], fun _ => x.v), ([], fun _ => .slice a wn c), ([], fun _ => .int .i64 (1 : Int)), ([], fun _ => .bool false), ([], fun _ => .bool false), ([], fun _ => .slice (some ⟨gp, 0, none⟩) 3 3), ([], fun _ => .int .i64 ((3 : Nat) : Int)), ([], fun _ => .slice (some ⟨gq, 0, none⟩) 3 qc), ([], fun _ => .int .i64 ((3 : Nat) : Int)), ([], fun _ => .bool false), ([], fun _ => .bool false)])
        (by kernel_rfl) ⟨by kernel_rfl, ⟨FreeU.d_load _ rfl rfl (fun β bs w h hd => load_40 ((W6S.t h).1.1)),
          FreeU.d_ask1 _ rfl rfl enter_17 (fun β bs w h hd => of_keep6 x h),
          FreeU.d_get2 _ rfl rfl enter_19 0 rfl (fun β bs w h hd => w6_get h ((hd 0 3 rfl).2 (.inr rfl)) HX6.out HL.out),
          FreeU.d_load _ rfl rfl (fun β bs w h hd => load_40 ((W6S.t h).1.1)),
          FreeU.d_ask2 _ rfl rfl enter_20 (fun β bs w h hd => w6_ref h HR6.out),
          FreeU.d_ask2 _ rfl rfl enter_12 (fun β bs w h hd => w6_same h ((hd 0 3 rfl).1 (by kernel_rfl)) HC6.out HWN.out HL.out),
          FreeU.d_bin _ rfl rfl (fun _ xo yo w => cmp_eql3 xo yo w (by decide)),
          FreeU.d_len _ rfl rfl (fun _ => len_42 _ _ _),
          FreeU.d_len _ rfl rfl (fun _ => len_46 _ _ _),
          FreeU.d_bin _ rfl rfl (fun _ xo yo w => cmp_neq3 xo yo w (by decide)),
          trivial⟩,
          fun β => by kernel_rfl, fun β => by kernel_rfl, by kernel_rfl, fun β => by kernel_rfl, by kernel_rfl⟩ (w6_start HT6.out) (fun β => Free.from_ 46 [.slice xa l.length xc, x.v, x.v, (β 3), .slice a l.length c, x.v, .slice a wn c, .int .i64 (1 : Int), .bool false, .bool false, .slice (some ⟨gp, 0, none⟩) 3 3, .int .i64 ((3 : Nat) : Int), .slice (some ⟨gq, 0, none⟩) 3 qc, .int .i64 ((3 : Nat) : Int), .bool false, .bool false]) (fun β => by kernel_rfl) ?_
      intro β w6 h6
      rw [Free.puts_from _ _ _ (Nat.le_of_ble_eq_true rfl)]
      simp only [List.take_succ_cons, List.take_zero, List.drop_succ_cons, List.drop_zero, List.cons_append, List.nil_append, List.length_cons, List.length_nil, Nat.reduceAdd]
      have HB6 := Lib.hid (HB5.out.trans (h6.t.2.mono HB5.out.size))
      have HP7 := Lib.hid (HP6.out.on h6.t.2)
      have HQ7 := Lib.hid (HQ6.out.on h6.t.2)
      have HX7 := Lib.hid (HX6.out.below h6.t.2)
      clear h6 HP6 HQ6 HX6 HT6 HR6 HWN
      go_wp2
      go_loopw [12] (fun iv wr => ∃ i : Nat, iv = .int .i64 (i : Int) ∧ i ≤ 3 ∧ Hid (Below w6.heap.size w6 wr)) (fun iv _ => 3 - (intOf iv).toNat)
      case atStart => exact ⟨0, rfl, by omega, Lib.hid (Below.refl _ _)⟩
      case round =>
        obtain ⟨i, rfl, hi, HB⟩ := hrel
        by_cases h1 : i < 3
        · have i1 : (i : Int) < 3 := by omega
          obtain ⟨hgp, hp7⟩ := HP7.out.on HB.out
          obtain ⟨hgq, hq7⟩ := HQ7.out.on HB.out
          have hi3 : i < D.length := by rw [HD3.out]; exact h1
          obtain ⟨pa, pc, hpc, hpe⟩ := hp7 i hi3
          obtain ⟨qa, qc2, hqc, hqe⟩ := hq7 i hi3
          have hm9 : D[i].length ≤ 1000000 := by
            have h3 := parts_short [x, y, z] (sortL l) D[i] (by rw [← HD.out]; exact List.getElem_mem hi3)
            rw [sort_length] at h3
            have := HL.out
            omega
          generalize D[i] = M at hpc hpe hqc hqe hm9
          obtain ⟨m, hm⟩ : ∃ m, m = M.length := ⟨_, rfl⟩
          rw [← hm] at hpc hqc hm9
          have HM : Hid (M.length = m) := Lib.hid hm.symm
          clear hp7 hq7 hm
          go_wp2_with fail
          refine FreeS.region_puts (S := fun _ W => Below wr.heap.size wr W) (sts := [])
            (tab := [(2, [.slice (some ⟨gp, 0, none⟩) 3 3, .int .i64 (i : Int)], .pointer (some ⟨gp, i, none⟩), .pure),
              (3, [.pointer (some ⟨gp, i, none⟩)], .slice pa m pc, .read),
              (6, [.slice (some ⟨gq, 0, none⟩) 3 qc, .int .i64 (i : Int)], .pointer (some ⟨gq, i, none⟩), .pure),
              (7, [.pointer (some ⟨gq, i, none⟩)], .slice qa m qc2, .read),
              (8, [.func (.func 12) #[] #[], .slice pa m pc, .slice qa m qc2], .int .i64 (1 : Int), .call 12 [.slice pa m pc, .slice qa m qc2]),
              (9, [.int .i64 (1 : Int), .int .i64 0], .bool false, .pure)])
            (by kernel_rfl) ⟨by kernel_rfl, ⟨FreeS.d_at _ rfl rfl (fun w => at_42 _ _ _ _ (by omega) w),
              FreeS.d_load _ rfl rfl (fun w h => load_25 (keep h hpc hgp)),
              FreeS.d_at _ rfl rfl (fun w => at_46 _ _ _ _ (by omega) w),
              FreeS.d_load _ rfl rfl (fun w h => load_22 (keep h hqc hgq)),
              FreeS.d_call2 _ rfl rfl enter_12 (fun w h => same_keep M HM.out hm9 h hpe hqe),
              FreeS.d_bin _ rfl rfl (fun xo yo w => cmp_eql3 xo yo w (by decide)),
              trivial⟩,
              by kernel_rfl, by kernel_rfl, by kernel_rfl⟩ (drew_below (Below.refl _ _)) (Free.from_ 68 [.slice (some ⟨gp, 0, none⟩) 3 3, .int .i64 (i : Int), .pointer (some ⟨gp, i, none⟩), .slice pa m pc, .slice (some ⟨gq, 0, none⟩) 3 qc, .int .i64 (i : Int), .pointer (some ⟨gq, i, none⟩), .slice qa m qc2, .int .i64 (1 : Int), .bool false]) (by kernel_rfl) ?_
          intro w4 h4
          rw [Free.puts_from _ _ _ (Nat.le_of_ble_eq_true rfl)]
          simp only [List.take_succ_cons, List.take_zero, List.drop_succ_cons, List.drop_zero, List.cons_append, List.nil_append, List.length_cons, List.length_nil, Nat.reduceAdd]
          have HBN := Lib.hid (HB.out.trans (h4.mono HB.out.size))
          clear h4 hpc hpe hqc hqe
          go_wp2
          go_roundw
          case rel => exact ⟨i + 1, by go_num, by omega, HBN⟩
          case measure => simp [intOf]; omega
        · obtain rfl : i = 3 := by omega
          have hp0 := parts_any xa l xc none [] 0 wr HL.out (by simp) (HX7.out.below HB.out).e HX7.out.none (.inl rfl)
          simp only [List.length_nil] at hp0
          have HB8 := Lib.hid (HB6.out.trans (HB.out.mono HB6.out.size))
          go_wp2_with fail
          refine hp0.mono ?_
          rintro e w8 ⟨gz, rfl, _, b8⟩
          have HB9 := Lib.hid (HB8.out.trans (b8.mono HB8.out.size))
          clear b8
          go_wp2
          go_ret
          exact ⟨rfl, HB9.out⟩
    · clear hf
      go_enter Try.func5, Try.ntmps5
      go_wp2_with fail
      refine (haw _).mono ?_
      rintro e w1 ⟨rfl, b1⟩
      have HT1 := Lib.hid (HT0.out.on b1)
      have HB1 := Lib.hid (HB0.out.trans (b1.mono HB0.out.size))
      have hfe := HF.out w1 HB1.out
      clear b1 HB0 HT0
      go_wp2_with fail
      refine hfe.mono ?_
      rintro e w1' ⟨rfl, rfl⟩
      obtain ⟨c1, c2, c3, c4, c5, c6, c7, c8, c9⟩ := HT1.out.cells
      have hsh := short_any (some ⟨w1.heap.size, 0, none⟩) [x, y, z] 3 _ (by simp) (sps_three w1 x y z 40)
      rw [sh_no hs] at hsh
      simp only [List.length_cons, List.length_nil, Nat.zero_add, Nat.reduceAdd] at hsh
      clear hfe
      go_wp2_with fail
      refine hsh.mono ?_
      rintro e w2 ⟨rfl, hw2⟩
      have hb2 : Below w1.heap.size w1 w2 := by rw [← hw2]; exact (Below.refl _ _).alloc (Nat.le_refl _) _
      have HT2 := Lib.hid (HT1.out.on hb2)
      have HB2 := Lib.hid (HB1.out.trans (hb2.mono HB1.out.size))
      clear c1 c2 c3 c4 c5 c6 c7 c8 c9 hb2 hsh hw2 HT1 HB1
      go_wp2_with fail
      refine (haw _).mono ?_
      rintro e w3 ⟨rfl, b3⟩
      have HB3 := Lib.hid (HB2.out.trans (b3.mono HB2.out.size))
      clear b3
      go_wp2
      go_ret
      exact ⟨rfl, HB3.out⟩
  · have HF : Hid (∀ w', Below w.heap.size w w' → Calls Try.prog 8 #[.slice a l.length c] w' fun e w2 => e = .returned (.int .i64 0) ∧ w' = w2) := Lib.hid (fun w' hb => by
      have := few_any a l c w' (HC.out.e.below hb)
      rwa [fewE_no hf] at this)
    clear hf
    go_enter Try.func5, Try.ntmps5
    go_wp2_with fail
    refine (haw _).mono ?_
    rintro e w1 ⟨rfl, b1⟩
    have HB2 := Lib.hid (HB0.out.trans (b1.mono HB0.out.size))
    have hfe := HF.out w1 HB2.out
    clear b1 HB0 HT0
    go_wp2_with fail
    refine hfe.mono ?_
    rintro e w1' ⟨rfl, rfl⟩
    clear hfe
    go_wp2_with fail
    refine (haw _).mono ?_
    rintro e w3 ⟨rfl, b3⟩
    have HB3 := Lib.hid (HB2.out.trans (b3.mono HB2.out.size))
    clear b3
    go_wp2
    go_ret
    exact ⟨rfl, HB3.out⟩
end Go.Proofs.Ythglldnhffkefaa
