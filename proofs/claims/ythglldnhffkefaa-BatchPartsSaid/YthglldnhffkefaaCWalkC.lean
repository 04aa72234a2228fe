/- BatchParts's law: at any entries and three texts it answers true. Condition: none but that the entries can be read. -/
import Derived.Test.YthglldnhffkefaaCMath
import Derived.Test.YthglldnhffkefaaCWalkB
namespace Go.Proofs.Ythglldnhffkefaa
open Go.RowKit Go.Op
set_option maxRecDepth 100000

theorem cmp_same37 (e : En) (xo yo : Operand) (w : World) : (eqGuard .neq 37 xo yo e.v e.v).run Try.prog w = .ok () w ∧ (binOp .neq 37 e.v e.v).run Try.prog w = .ok (.bool false) w := by
  unfold En.v
  exact ⟨by simp [eqGuard], by go_simp⟩
/-- While three lists are put one behind the other. -/
def TripS (wo : World) (A B C : List En) : List Bool → (Nat → Value) → World → Prop
  | [b0, b4, b8, b12], β, w => Below wo.heap.size wo w ∧ (b0 = true → b4 = false → OwnE 37 w wo.heap.size (β 0) []) ∧ (b4 = true → b8 = false → OwnE 37 w wo.heap.size (β 4) A) ∧
    (b8 = true → b12 = false → OwnE 37 w wo.heap.size (β 8) (A ++ B)) ∧ (b12 = true → OwnE 37 w wo.heap.size (β 12) (A ++ B ++ C))
  | _, _, _ => False
section
variable {wo w : World} {A B C : List En} {bs : List Bool} {β : Nat → Value} {oa : Option Addr} {k oc : Nat}
theorem trip_b (h : TripS wo A B C bs β w) : Below wo.heap.size wo w := by
  unfold TripS at h
  split at h
  · exact h.1
  · exact h.elim
theorem trip_start (h : Below wo.heap.size wo w) : TripS wo A B C [false, false, false, false] β w :=
  ⟨h, fun h => (by cases h), fun h => (by cases h), fun h => (by cases h), fun h => (by cases h)⟩
theorem trip_end (h : TripS wo A B C [true, true, true, true] β w) : Below wo.heap.size wo w ∧ OwnE 37 w wo.heap.size (β 12) (A ++ B ++ C) := ⟨h.1, h.2.2.2.2 rfl⟩
theorem trip_e0 (h : TripS wo A B C bs β w) (_h0 : bs[0]? = some false) (h4 : bs[1]? = some false) (h8 : bs[2]? = some false) (h12 : bs[3]? = some false) :
    ∃ u w', (Instr.buildSlice 25 0 #[]).run Try.prog w = .ok u w' ∧ TripS wo A B C (bs.set 0 true) (FreeT.upd β 0 u) w' := by
  match bs, h with
  | [b0, b4, b8, b12], ⟨hb, _, _, _, _⟩ =>
    simp only [List.getElem?_cons_succ, List.getElem?_cons_zero, Option.some.injEq] at h4 h8 h12
    subst h4 h8 h12
    exact ⟨_, _, run_row0 (.inl ⟨rfl, rfl⟩) w, hb.alloc hb.size _, fun _ _ => own_row0 37 w hb.size, fun h => (by cases h), fun h => (by cases h), fun h => (by cases h)⟩
theorem trip_e4 (h : TripS wo A B C bs β w) (h0 : bs[0]? = some true) (h4 : bs[1]? = some false) (h8 : bs[2]? = some false) (h12 : bs[3]? = some false) (hC : Cut wo oa A oc) (hk : A.length = k) (hs : A.length + B.length + C.length ≤ 1000000) (ty : TypeId) :
    ∃ u w', (Builtin.append_ #[25, 25] ty #[β 0, .slice oa k oc]).run Try.prog w = .ok u w' ∧ TripS wo A B C (bs.set 1 true) (FreeT.upd β 4 u) w' := by
  match bs, h with
  | [b0, b4, b8, b12], ⟨hb, q0, _, _, _⟩ =>
    simp only [List.getElem?_cons_succ, List.getElem?_cons_zero, Option.some.injEq] at h0 h4 h8 h12
    subst h0 h4 h8 h12 hk
    have o0 := q0 rfl rfl
    obtain ⟨v', w', hr, ho, hg, _⟩ := run_append_cut 25 37 (.inl ⟨rfl, rfl⟩) wo.heap.size (β 0) [] A w o0 oa oc (hC.e.below hb) hC.none (by simp; omega) hb.size ty
    exact ⟨v', w', hr, below_grown hb o0 hg hb.size, fun _ h => (by cases h), fun _ _ => (by show OwnE 37 w' wo.heap.size v' A; simpa using ho), fun h => (by cases h), fun h => (by cases h)⟩
theorem trip_e8 (h : TripS wo A B C bs β w) (h4 : bs[1]? = some true) (h8 : bs[2]? = some false) (h12 : bs[3]? = some false) (hC : Cut wo oa B oc) (hk : B.length = k) (hs : A.length + B.length + C.length ≤ 1000000) (ty : TypeId) :
    ∃ u w', (Builtin.append_ #[25, 25] ty #[β 4, .slice oa k oc]).run Try.prog w = .ok u w' ∧ TripS wo A B C (bs.set 2 true) (FreeT.upd β 8 u) w' := by
  match bs, h with
  | [b0, b4, b8, b12], ⟨hb, _, q4, _, _⟩ =>
    simp only [List.getElem?_cons_succ, List.getElem?_cons_zero, Option.some.injEq] at h4 h8 h12
    subst h4 h8 h12 hk
    have o0 := q4 rfl rfl
    obtain ⟨v', w', hr, ho, hg, _⟩ := run_append_cut 25 37 (.inl ⟨rfl, rfl⟩) wo.heap.size (β 4) A B w o0 oa oc (hC.e.below hb) hC.none (by omega) hb.size ty
    exact ⟨v', w', hr, below_grown hb o0 hg hb.size, fun _ h => (by cases h), fun _ h => (by cases h), fun _ _ => ho, fun h => (by cases h)⟩
theorem trip_e12 (h : TripS wo A B C bs β w) (h4 : bs[1]? = some true) (h8 : bs[2]? = some true) (h12 : bs[3]? = some false) (hC : Cut wo oa C oc) (hk : C.length = k) (hs : A.length + B.length + C.length ≤ 1000000) (ty : TypeId) :
    ∃ u w', (Builtin.append_ #[25, 25] ty #[β 8, .slice oa k oc]).run Try.prog w = .ok u w' ∧ TripS wo A B C (bs.set 3 true) (FreeT.upd β 12 u) w' := by
  match bs, h with
  | [b0, b4, b8, b12], ⟨hb, _, _, q8, _⟩ =>
    simp only [List.getElem?_cons_succ, List.getElem?_cons_zero, Option.some.injEq] at h4 h8 h12
    subst h4 h8 h12 hk
    have o0 := q8 rfl rfl
    obtain ⟨v', w', hr, ho, hg, _⟩ := run_append_cut 25 37 (.inl ⟨rfl, rfl⟩) wo.heap.size (β 8) (A ++ B) C w o0 oa oc (hC.e.below hb) hC.none (by simp; omega) hb.size ty
    exact ⟨v', w', hr, below_grown hb o0 hg hb.size, fun _ h => (by cases h), fun _ h => (by cases h), fun _ h => (by cases h), fun _ => ho⟩
end

set_option maxHeartbeats 4000000 in
theorem parts_law (a : Option Addr) (l : List En) (c : Nat) (lo mid high : ByteArray) (w : World) (hC : Cut w a l c) :
    Calls Try.prog 6 #[.slice a l.length c, .string lo, .string mid, .string high] w fun e w' => e = .returned (.bool true) ∧ Below w.heap.size w w' := by
  have HC := Lib.hid hC
  have haw := awake_any
  have mixed : Try.prog.follows .mixedOrders = true := by kernel_rfl
  clear hC
  by_cases hf : FewE l
  · have HF : Hid (∀ w', Below w.heap.size w w' → Calls Try.prog 8 #[.slice a l.length c] w' fun e w2 => e = .returned (.int .i64 1) ∧ w' = w2) := Lib.hid (fun w' hb => by
      have := few_any a l c w' (HC.out.e.below hb)
      rwa [fewE_yes hf] at this)
    have HL : Hid (l.length ≤ 1000000) := Lib.hid (by have := hf.1; omega)
    clear hf
    by_cases h1 : lo.size ≤ 40
    · have d1 : decide ((40 : Int) < (lo.size : Int)) = false := decide_eq_false (by omega)
      by_cases h2 : mid.size ≤ 40
      · have d2 : decide ((40 : Int) < (mid.size : Int)) = false := decide_eq_false (by omega)
        by_cases h3 : high.size ≤ 40
        · have d3 : decide ((40 : Int) < (high.size : Int)) = false := decide_eq_false (by omega)
          cases h4 : (!bytesLess lo.toList mid.toList && !lo.toList == mid.toList) with
          | false =>
            cases h5 : (!bytesLess mid.toList high.toList && !mid.toList == high.toList) with
            | false =>
              clear h1 h2 h3
              go_enter Try.func6, Try.ntmps6
              go_wp2_with fail
              refine (haw _).mono ?_
              rintro e w1 ⟨rfl, b1⟩
              have HB2 := Lib.hid b1
              have hfe := HF.out w1 HB2.out
              clear b1
              go_wp2_with fail
              refine hfe.mono ?_
              rintro e w1' ⟨rfl, rfl⟩
              clear hfe
              have ho := lawof_any a l c w1 HL.out (HC.out.e.below HB2.out)
              go_wp2_with fail
              refine ho.mono ?_
              rintro e w3 ⟨v, rfl, hown, b3⟩
              obtain ⟨xa, xc, rfl, hcut, _, _⟩ := hown.sl
              have HB3 := Lib.hid (HB2.out.trans (b3.mono HB2.out.size))
              have HX3 := Lib.hid hcut
              obtain ⟨A, B, C, hD, hABC⟩ := parts_joined (sortL l) (up_sort l) lo mid high no
              have HABC := Lib.hid hABC
              have hSL := sort_length l
              have hpa := parts_any xa l xc (some ⟨w3.heap.size, 0, none⟩) [⟨lo, mid, false⟩, ⟨mid, high, false⟩, ⟨high, no, true⟩] 3 _ HL.out (by simp) (HX3.out.e.below ((Below.refl _ _).alloc (Nat.le_refl _) _)) HX3.out.none (sps_three w3 ⟨lo, mid, false⟩ ⟨mid, high, false⟩ ⟨high, no, true⟩ 44)
              rw [hD] at hpa
              simp only [List.length_cons, List.length_nil, Nat.zero_add, Nat.reduceAdd] at hpa
              clear ho hown b3 hcut hD hABC
              go_wp2_with fail
              refine hpa.mono ?_
              rintro e w4 ⟨gp, rfl, hrow, b4⟩
              have hb34 : Below w3.heap.size w3 w4 := ((Below.refl _ _).alloc (Nat.le_refl _) _).trans (b4.mono (by simp))
              have HB4 := Lib.hid (HB3.out.trans (hb34.mono HB3.out.size))
              have HX4 := Lib.hid (HX3.out.below hb34)
              obtain ⟨aa, ca, kA0, cA0⟩ := hrow.at (k := 0) (by simp) (by omega)
              obtain ⟨ab, cb, kB0, cB0⟩ := hrow.at (k := 1) (by simp) (by omega)
              obtain ⟨ac, cc, kC0, cC0⟩ := hrow.at (k := 2) (by simp) (by omega)
              have hgp4 : gp < w4.heap.size := by obtain ⟨_, _, g2, _⟩ := hrow; exact g2
              simp only [List.getElem_cons_zero, List.getElem_cons_succ] at kA0 cA0 kB0 cB0 kC0 cC0
              obtain ⟨na, hna⟩ : ∃ n, n = A.length := ⟨_, rfl⟩
              obtain ⟨nb, hnb⟩ : ∃ n, n = B.length := ⟨_, rfl⟩
              obtain ⟨nc, hnc⟩ : ∃ n, n = C.length := ⟨_, rfl⟩
              rw [← hna] at kA0
              rw [← hnb] at kB0
              rw [← hnc] at kC0
              have HNA : Hid (A.length = na) := Lib.hid hna.symm
              have HNB : Hid (B.length = nb) := Lib.hid hnb.symm
              have HNC : Hid (C.length = nc) := Lib.hid hnc.symm
              have KA := Lib.hid kA0
              have KB := Lib.hid kB0
              have KC := Lib.hid kC0
              have HCA0 := Lib.hid cA0
              have HCB0 := Lib.hid cB0
              have HCC0 := Lib.hid cC0
              have hso := sorted_any xa l xc w4 HL.out HX4.out.e HX4.out.none
              clear hna hnb hnc kA0 kB0 kC0 cA0 cB0 cC0 hpa b4 hb34 hrow
              go_wp2_with fail
              refine hso.mono ?_
              rintro e w5 ⟨v, rfl, hown, _, b5⟩
              obtain ⟨sa, sc, rfl, hcut, _, _⟩ := hown.sl
              have HB5 := Lib.hid (HB4.out.trans (b5.mono HB4.out.size))
              have HA := Lib.hid (keep b5 KA.out hgp4)
              have HBB := Lib.hid (keep b5 KB.out hgp4)
              have HCC := Lib.hid (keep b5 KC.out hgp4)
              have hgp5 : gp < w5.heap.size := Nat.lt_of_lt_of_le hgp4 b5.size
              have HCA := Lib.hid (HCA0.out.below b5)
              have HCB := Lib.hid (HCB0.out.below b5)
              have HCD := Lib.hid (HCC0.out.below b5)
              have HS5 := Lib.hid hcut
              obtain ⟨L, hL⟩ : ∃ L, L = sortL l := ⟨_, rfl⟩
              rw [← hL] at HS5 HABC hSL
              have hll : L.length ≤ 1000000 := by have := HL.out; omega
              have HSF := Lib.hid (fun i (h : i ≤ fromN L lo) (hi : i < L.length) => from_step h hi)
              have hwl := fromN_le L lo
              have HW : Hid (fromL L lo = L.drop (fromN L lo)) := Lib.hid rfl
              obtain ⟨n9, hn9⟩ : ∃ n, n = L.length := ⟨_, rfl⟩
              have HN9 : Hid (L.length = n9) := Lib.hid hn9.symm
              have hsl9 : (sortL l).length = n9 := by rw [← hL, hn9]
              rw [hsl9]
              rw [← hn9] at hwl hll
              generalize fromN L lo = n0 at HSF hwl HW
              clear hso hown b5 hcut hL hSL hn9 hsl9 KA KB KC HCA0 HCB0 HCC0 hgp4
              go_wp2
              go_loopw [11] (fun v wr => ∃ (d m : Nat) (a' : Option Addr) (c' : Nat), d ≤ n0 ∧ v = .slice a' m c' ∧ d + m = n9 ∧ Hid (Cut w5 a' (L.drop d) c') ∧ Hid (w5 = wr)) (fun v _ => match v with | .slice _ n _ => n | _ => 0)
              case atStart => exact ⟨0, n9, sa, sc, by omega, rfl, by omega, HS5, Lib.hid rfl⟩
              case round =>
                obtain ⟨d, m, a', c', hd, rfl, hdm, HDD, HWW⟩ := hrel
                obtain rfl := HWW.out
                by_cases q1 : d < n9
                · have i1 : (0 : Int) < (m : Int) := by omega
                  have q1s : d < L.length := by rw [HN9.out]; exact q1
                  have hs := HSF.out d hd q1s
                  have h0 : 0 < (L.drop d).length := by rw [List.length_drop]; omega
                  obtain ⟨eb, eo, rfl, heb, hx⟩ := HDD.out.e.at h0
                  have he : (L.drop d)[0] = L[d] := by rw [List.getElem_drop]; rfl
                  rw [he] at hx
                  generalize L[d] = e at hx hs
                  obtain ⟨x1, x2, x3⟩ := hx
                  rw [Nat.zero_mul, Nat.add_zero] at x1
                  have hcm : m ≤ c' := by have := HDD.out.len; rw [List.length_drop, HN9.out] at this; omega
                  rcases hs with ⟨hh, g3⟩ | ⟨hh, g3⟩
                  · have hsl : ∀ W, (Instr.sliceAt 25 (.slice (some ⟨eb, eo, none⟩) m c') (some (.int .i64 1)) none none).run Try.prog W = .ok (.slice (dropA (some ⟨eb, eo, none⟩) c' 1) (m - 1) (c' - 1)) W := fun W => slice_lo (T := 25) (.inl rfl) (a := some ⟨eb, eo, none⟩) (n := m) (c := c') (k := 1) (by omega) hcm HDD.out.big HDD.out.none HDD.out.spot W
                    have HN : Hid (Cut w5 (dropA (some ⟨eb, eo, none⟩) c' 1) (L.drop (d + 1)) (c' - 1)) := Lib.hid (by have := HDD.out.drop (k := 1) (by omega); rwa [List.drop_drop] at this)
                    unfold lt at hh
                    clear x2 x3 he h0
                    generalize dropA (some ⟨eb, eo, none⟩) c' 1 = an at hsl HN
                    go_wp2
                    go_roundw
                    case rel => exact ⟨d + 1, m - 1, an, c' - 1, g3, rfl, by omega, HN, Lib.hid (by trivial)⟩
                    case measure => simp; omega
                  · have HE : Hid (L.drop d = A ++ B ++ C) := Lib.hid (by rw [HABC.out, HW.out, g3])
                    unfold lt at hh
                    clear x2 x3 he h0
                    have hlen : A.length + B.length + C.length = m := by
                      have := congrArg List.length HE.out
                      rw [List.length_drop, HN9.out, List.length_append, List.length_append] at this
                      omega
                    have hAl : A.length + B.length + C.length ≤ 1000000 := by omega
                    have hgp := hgp5
                    obtain ⟨wq, hwq⟩ : ∃ wq, wq = w5 := ⟨_, rfl⟩
                    subst hwq
                    go_wp2_with fail
                    refine FreeT.region_puts (S := TripS wq A B C) (effs := [0, 4, 8, 12])
                      (tab := [⟨0, fun _ => [], fun β => (β 0), .eff⟩,
                        ⟨2, fun _ => [.slice (some ⟨gp, 0, none⟩) 3 3, .int .i64 0], fun _ => .pointer (some ⟨gp, 0, none⟩), .pure⟩,
                        ⟨3, fun _ => [.pointer (some ⟨gp, 0, none⟩)], fun _ => .slice aa na ca, .read⟩,
                        ⟨4, fun β => [(β 0), .slice aa na ca], fun β => (β 4), .eff⟩,
                        ⟨6, fun _ => [.slice (some ⟨gp, 0, none⟩) 3 3, .int .i64 1], fun _ => .pointer (some ⟨gp, 1, none⟩), .pure⟩,
                        ⟨7, fun _ => [.pointer (some ⟨gp, 1, none⟩)], fun _ => .slice ab nb cb, .read⟩,
                        ⟨8, fun β => [(β 4), .slice ab nb cb], fun β => (β 8), .eff⟩,
                        ⟨10, fun _ => [.slice (some ⟨gp, 0, none⟩) 3 3, .int .i64 2], fun _ => .pointer (some ⟨gp, 2, none⟩), .pure⟩,
                        ⟨11, fun _ => [.pointer (some ⟨gp, 2, none⟩)], fun _ => .slice ac nc cc, .read⟩,
                        ⟨12, fun β => [(β 8), .slice ac nc cc], fun β => (β 12), .eff⟩])
                      (vs := [([0], fun l => l.headD undef), ([], fun _ => .slice (some ⟨gp, 0, none⟩) 3 3), ([], fun _ => .pointer (some ⟨gp, 0, none⟩)), ([], fun _ => .slice aa na ca), ([4], fun l => l.headD undef), ([], fun _ => .slice (some ⟨gp, 0, none⟩) 3 3), ([], fun _ => .pointer (some ⟨gp, 1, none⟩)), ([], fun _ => .slice ab nb cb), ([8], fun l => l.headD undef), ([], fun _ => .slice (some ⟨gp, 0, none⟩) 3 3), ([], fun _ => .pointer (some ⟨gp, 2, none⟩)), ([], fun _ => .slice ac nc cc), ([12], fun l => l.headD undef), ([12], fun l => l.headD undef)])
                      (by kernel_rfl) ⟨by kernel_rfl, ⟨FreeT.d_row0 _ rfl rfl 0 rfl (fun β bs w h hd => trip_e0 h ((hd 0 0 rfl).2 (.inr rfl)) ((hd 1 4 rfl).2 (.inl (by kernel_rfl))) ((hd 2 8 rfl).2 (.inl (by kernel_rfl))) ((hd 3 12 rfl).2 (.inl (by kernel_rfl)))),
                        FreeT.d_at _ rfl rfl (fun _ w => at_42 gp 3 3 0 (by omega) w),
                        FreeT.d_load _ rfl rfl (fun β bs w h hd => load_25 (keep (trip_b h) HA.out hgp)),
                        FreeT.d_app _ rfl rfl 1 rfl (fun β bs ty w h hd => trip_e4 h ((hd 0 0 rfl).1 (by kernel_rfl)) ((hd 1 4 rfl).2 (.inr rfl)) ((hd 2 8 rfl).2 (.inl (by kernel_rfl))) ((hd 3 12 rfl).2 (.inl (by kernel_rfl))) HCA.out HNA.out hAl ty),
                        FreeT.d_at _ rfl rfl (fun _ w => at_42 gp 3 3 1 (by omega) w),
                        FreeT.d_load _ rfl rfl (fun β bs w h hd => load_25 (keep (trip_b h) HBB.out hgp)),
                        FreeT.d_app _ rfl rfl 2 rfl (fun β bs ty w h hd => trip_e8 h ((hd 1 4 rfl).1 (by kernel_rfl)) ((hd 2 8 rfl).2 (.inr rfl)) ((hd 3 12 rfl).2 (.inl (by kernel_rfl))) HCB.out HNB.out hAl ty),
                        FreeT.d_at _ rfl rfl (fun _ w => at_42 gp 3 3 2 (by omega) w),
                        FreeT.d_load _ rfl rfl (fun β bs w h hd => load_25 (keep (trip_b h) HCC.out hgp)),
                        FreeT.d_app _ rfl rfl 3 rfl (fun β bs ty w h hd => trip_e12 h ((hd 1 4 rfl).1 (by kernel_rfl)) ((hd 2 8 rfl).1 (by kernel_rfl)) ((hd 3 12 rfl).2 (.inr rfl)) HCD.out HNC.out hAl ty),
                        trivial⟩,
                        fun β => by kernel_rfl, fun β => by kernel_rfl, by kernel_rfl, fun β => by kernel_rfl, by kernel_rfl⟩ (trip_start (drew_below (Below.refl _ _))) (fun β => Free.from_ 78 [(β 0), .slice (some ⟨gp, 0, none⟩) 3 3, .pointer (some ⟨gp, 0, none⟩), .slice aa na ca, (β 4), .slice (some ⟨gp, 0, none⟩) 3 3, .pointer (some ⟨gp, 1, none⟩), .slice ab nb cb, (β 8), .slice (some ⟨gp, 0, none⟩) 3 3, .pointer (some ⟨gp, 2, none⟩), .slice ac nc cc, (β 12)] ++ [(12, (β 12))]) (fun β => by kernel_rfl) ?_
                    intro β w6 h4
                    rw [FreeX.puts_append, Free.puts_from _ _ _ (Nat.le_of_ble_eq_true rfl)]
                    simp only [List.take_succ_cons, List.take_zero, List.drop_succ_cons, List.drop_zero, List.cons_append, List.nil_append, List.length_cons, List.length_nil, Nat.reduceAdd]
                    unfold Free.puts
                    simp only [List.foldl_cons, List.foldl_nil]
                    have htr := trip_end h4
                    have HB6 := Lib.hid (HB5.out.trans (htr.1.mono HB5.out.size))
                    obtain ⟨va, vc, eb12, hcv, _, _⟩ := htr.2.sl
                    have hlv : (A ++ B ++ C).length = m := by rw [List.length_append, List.length_append]; exact hlen
                    have HD6 := Lib.hid (HDD.out.below htr.1)
                    rw [HE.out] at HD6
                    have HV6 := Lib.hid hcv
                    obtain ⟨M, hM⟩ : ∃ M, M = A ++ B ++ C := ⟨_, rfl⟩
                    rw [← hM] at HD6 HV6 hlv eb12
                    rw [hlv] at eb12
                    rw [eb12]
                    have HLV := Lib.hid hlv
                    clear htr hcv hM hlv eb12 h4 hlen hAl HA HBB HCC HCA HCB HCD HE hgp hgp5
                    go_wp2
                    go_loopw [13] (fun iv wr => ∃ i : Nat, iv = .int .i64 (i : Int) ∧ i ≤ m ∧ Hid (Below w6.heap.size w6 wr)) (fun iv _ => m - (intOf iv).toNat)
                    case atStart => exact ⟨0, rfl, by omega, Lib.hid (Below.refl _ _)⟩
                    case round =>
                      obtain ⟨i, rfl, hi, HBL⟩ := hrel
                      by_cases h1 : i < m
                      · have i2 : (i : Int) < (m : Int) := by omega
                        have him : i < M.length := by rw [HLV.out]; exact h1
                        obtain ⟨b1, o1, e1, hb10, hx0⟩ := (HD6.out.below HBL.out).e.at him
                        cases e1
                        obtain ⟨b2, o2, rfl, hb20, hy0⟩ := (HV6.out.below HBL.out).e.at him
                        generalize M[i] = e at hx0 hy0
                        have hx := hx0
                        have hy := hy0
                        have hb1 := hb10
                        have hb2 := hb20
                        go_wp2_with fail
                        refine FreeS.region_puts (S := fun _ W => Below wr.heap.size wr W) (sts := [])
                          (tab := [(2, [.slice (some ⟨eb, eo, none⟩) m c', .int .i64 (i : Int)], .pointer (some ⟨eb, eo + i * 3, none⟩), .pure),
                            (3, [.pointer (some ⟨eb, eo + i * 3, none⟩)], e.v, .read),
                            (6, [.slice (some ⟨b2, o2, none⟩) m vc, .int .i64 (i : Int)], .pointer (some ⟨b2, o2 + i * 3, none⟩), .pure),
                            (7, [.pointer (some ⟨b2, o2 + i * 3, none⟩)], e.v, .read),
                            (8, [e.v, e.v], .bool false, .pure)])
                          (by kernel_rfl) ⟨by kernel_rfl, ⟨FreeS.d_at _ rfl rfl (fun w => at_25o _ _ _ _ _ h1 w),
                            FreeS.d_load _ rfl rfl (fun w h => load_37 (hx.below h hb1)),
                            FreeS.d_at _ rfl rfl (fun w => at_25o _ _ _ _ _ h1 w),
                            FreeS.d_load _ rfl rfl (fun w h => load_37 (hy.below h hb2)),
                            FreeS.d_bin _ rfl rfl (fun xo yo w => cmp_same37 e xo yo w),
                            trivial⟩,
                            by kernel_rfl, by kernel_rfl, by kernel_rfl⟩ (drew_below (Below.refl _ _)) (Free.from_ 102 [.slice (some ⟨eb, eo, none⟩) m c', .int .i64 (i : Int), .pointer (some ⟨eb, eo + i * 3, none⟩), e.v, .slice (some ⟨b2, o2, none⟩) m vc, .int .i64 (i : Int), .pointer (some ⟨b2, o2 + i * 3, none⟩), e.v, .bool false]) (by kernel_rfl) ?_
                        intro w4 h4
                        rw [Free.puts_from _ _ _ (Nat.le_of_ble_eq_true rfl)]
                        simp only [List.take_succ_cons, List.take_zero, List.drop_succ_cons, List.drop_zero, List.cons_append, List.nil_append, List.length_cons, List.length_nil, Nat.reduceAdd]
                        have HBN := Lib.hid (HBL.out.trans (h4.mono HBL.out.size))
                        clear h4 hx hy hx0 hy0
                        go_wp2
                        go_roundw
                        case rel => exact ⟨i + 1, by go_num, by omega, HBN⟩
                        case measure => simp [intOf]; omega
                      · obtain rfl : i = m := by omega
                        have i2 : ¬ (i : Int) < (i : Int) := by omega
                        go_wp2
                        go_ret
                        exact ⟨rfl, HB6.out.trans (HBL.out.mono HB6.out.size)⟩
                · obtain rfl : m = 0 := by omega
                  have HE : Hid (L.drop d = A ++ B ++ C) := Lib.hid (by rw [HABC.out, HW.out, List.drop_eq_nil_of_le (by rw [HN9.out]; omega), List.drop_eq_nil_of_le (by rw [HN9.out]; omega)])
                  have hlen : A.length + B.length + C.length = 0 := by
                    have := congrArg List.length HE.out
                    rw [List.length_drop, HN9.out, List.length_append, List.length_append] at this
                    omega
                  have hAl : A.length + B.length + C.length ≤ 1000000 := by omega
                  have hgp := hgp5
                  obtain ⟨wq, hwq⟩ : ∃ wq, wq = w5 := ⟨_, rfl⟩
                  subst hwq
                  go_wp2_with fail
                  refine FreeT.region_puts (S := TripS wq A B C) (effs := [0, 4, 8, 12])
                    (tab := [⟨0, fun _ => [], fun β => (β 0), .eff⟩,
                      ⟨2, fun _ => [.slice (some ⟨gp, 0, none⟩) 3 3, .int .i64 0], fun _ => .pointer (some ⟨gp, 0, none⟩), .pure⟩,
                      ⟨3, fun _ => [.pointer (some ⟨gp, 0, none⟩)], fun _ => .slice aa na ca, .read⟩,
                      ⟨4, fun β => [(β 0), .slice aa na ca], fun β => (β 4), .eff⟩,
                      ⟨6, fun _ => [.slice (some ⟨gp, 0, none⟩) 3 3, .int .i64 1], fun _ => .pointer (some ⟨gp, 1, none⟩), .pure⟩,
                      ⟨7, fun _ => [.pointer (some ⟨gp, 1, none⟩)], fun _ => .slice ab nb cb, .read⟩,
                      ⟨8, fun β => [(β 4), .slice ab nb cb], fun β => (β 8), .eff⟩,
                      ⟨10, fun _ => [.slice (some ⟨gp, 0, none⟩) 3 3, .int .i64 2], fun _ => .pointer (some ⟨gp, 2, none⟩), .pure⟩,
                      ⟨11, fun _ => [.pointer (some ⟨gp, 2, none⟩)], fun _ => .slice ac nc cc, .read⟩,
                      ⟨12, fun β => [(β 8), .slice ac nc cc], fun β => (β 12), .eff⟩])
                    (vs := [([0], fun l => l.headD undef), ([], fun _ => .slice (some ⟨gp, 0, none⟩) 3 3), ([], fun _ => .pointer (some ⟨gp, 0, none⟩)), ([], fun _ => .slice aa na ca), ([4], fun l => l.headD undef), ([], fun _ => .slice (some ⟨gp, 0, none⟩) 3 3), ([], fun _ => .pointer (some ⟨gp, 1, none⟩)), ([], fun _ => .slice ab nb cb), ([8], fun l => l.headD undef), ([], fun _ => .slice (some ⟨gp, 0, none⟩) 3 3), ([], fun _ => .pointer (some ⟨gp, 2, none⟩)), ([], fun _ => .slice ac nc cc), ([12], fun l => l.headD undef), ([12], fun l => l.headD undef)])
                    (by kernel_rfl) ⟨by kernel_rfl, ⟨FreeT.d_row0 _ rfl rfl 0 rfl (fun β bs w h hd => trip_e0 h ((hd 0 0 rfl).2 (.inr rfl)) ((hd 1 4 rfl).2 (.inl (by kernel_rfl))) ((hd 2 8 rfl).2 (.inl (by kernel_rfl))) ((hd 3 12 rfl).2 (.inl (by kernel_rfl)))),
                      FreeT.d_at _ rfl rfl (fun _ w => at_42 gp 3 3 0 (by omega) w),
                      FreeT.d_load _ rfl rfl (fun β bs w h hd => load_25 (keep (trip_b h) HA.out hgp)),
                      FreeT.d_app _ rfl rfl 1 rfl (fun β bs ty w h hd => trip_e4 h ((hd 0 0 rfl).1 (by kernel_rfl)) ((hd 1 4 rfl).2 (.inr rfl)) ((hd 2 8 rfl).2 (.inl (by kernel_rfl))) ((hd 3 12 rfl).2 (.inl (by kernel_rfl))) HCA.out HNA.out hAl ty),
                      FreeT.d_at _ rfl rfl (fun _ w => at_42 gp 3 3 1 (by omega) w),
                      FreeT.d_load _ rfl rfl (fun β bs w h hd => load_25 (keep (trip_b h) HBB.out hgp)),
                      FreeT.d_app _ rfl rfl 2 rfl (fun β bs ty w h hd => trip_e8 h ((hd 1 4 rfl).1 (by kernel_rfl)) ((hd 2 8 rfl).2 (.inr rfl)) ((hd 3 12 rfl).2 (.inl (by kernel_rfl))) HCB.out HNB.out hAl ty),
                      FreeT.d_at _ rfl rfl (fun _ w => at_42 gp 3 3 2 (by omega) w),
                      FreeT.d_load _ rfl rfl (fun β bs w h hd => load_25 (keep (trip_b h) HCC.out hgp)),
                      FreeT.d_app _ rfl rfl 3 rfl (fun β bs ty w h hd => trip_e12 h ((hd 1 4 rfl).1 (by kernel_rfl)) ((hd 2 8 rfl).1 (by kernel_rfl)) ((hd 3 12 rfl).2 (.inr rfl)) HCD.out HNC.out hAl ty),
                      trivial⟩,
                      fun β => by kernel_rfl, fun β => by kernel_rfl, by kernel_rfl, fun β => by kernel_rfl, by kernel_rfl⟩ (trip_start (drew_below (Below.refl _ _))) (fun β => Free.from_ 78 [(β 0), .slice (some ⟨gp, 0, none⟩) 3 3, .pointer (some ⟨gp, 0, none⟩), .slice aa na ca, (β 4), .slice (some ⟨gp, 0, none⟩) 3 3, .pointer (some ⟨gp, 1, none⟩), .slice ab nb cb, (β 8), .slice (some ⟨gp, 0, none⟩) 3 3, .pointer (some ⟨gp, 2, none⟩), .slice ac nc cc, (β 12)] ++ [(12, (β 12))]) (fun β => by kernel_rfl) ?_
                  intro β w6 h4
                  rw [FreeX.puts_append, Free.puts_from _ _ _ (Nat.le_of_ble_eq_true rfl)]
                  simp only [List.take_succ_cons, List.take_zero, List.drop_succ_cons, List.drop_zero, List.cons_append, List.nil_append, List.length_cons, List.length_nil, Nat.reduceAdd]
                  unfold Free.puts
                  simp only [List.foldl_cons, List.foldl_nil]
                  have htr := trip_end h4
                  have HB6 := Lib.hid (HB5.out.trans (htr.1.mono HB5.out.size))
                  obtain ⟨va, vc, eb12, hcv, _, _⟩ := htr.2.sl
                  have hlv : (A ++ B ++ C).length = 0 := by rw [List.length_append, List.length_append]; exact hlen
                  have HD6 := Lib.hid (HDD.out.below htr.1)
                  rw [HE.out] at HD6
                  have HV6 := Lib.hid hcv
                  obtain ⟨M, hM⟩ : ∃ M, M = A ++ B ++ C := ⟨_, rfl⟩
                  rw [← hM] at HD6 HV6 hlv eb12
                  rw [hlv] at eb12
                  rw [eb12]
                  have HLV := Lib.hid hlv
                  clear htr hcv hM hlv eb12 h4 hlen hAl HA HBB HCC HCA HCB HCD HE hgp hgp5
                  go_wp2
                  go_loopw [13] (fun iv wr => iv = .int .i64 0 ∧ Hid (Below w6.heap.size w6 wr)) (fun iv _ => 0)
                  case atStart => exact ⟨rfl, Lib.hid (Below.refl _ _)⟩
                  case round =>
                    obtain ⟨rfl, HBL⟩ := hrel
                    go_wp2
                    go_ret
                    exact ⟨rfl, HB6.out.trans (HBL.out.mono HB6.out.size)⟩
            | true =>
              clear h1 h2 h3
              go_enter Try.func6, Try.ntmps6
              go_wp2_with fail
              refine (haw _).mono ?_
              rintro e w1 ⟨rfl, b1⟩
              have HB2 := Lib.hid b1
              have hfe := HF.out w1 HB2.out
              clear b1
              go_wp2_with fail
              refine hfe.mono ?_
              rintro e w1' ⟨rfl, rfl⟩
              clear hfe
              go_wp2_with fail
              refine (haw _).mono ?_
              rintro e w3 ⟨rfl, b3⟩
              have HB3 := Lib.hid (HB2.out.trans (b3.mono HB2.out.size))
              clear b3
              go_wp2
              go_ret
              exact ⟨rfl, HB3.out⟩
          | true =>
            clear h1 h2 h3
            go_enter Try.func6, Try.ntmps6
            go_wp2_with fail
            refine (haw _).mono ?_
            rintro e w1 ⟨rfl, b1⟩
            have HB2 := Lib.hid b1
            have hfe := HF.out w1 HB2.out
            clear b1
            go_wp2_with fail
            refine hfe.mono ?_
            rintro e w1' ⟨rfl, rfl⟩
            clear hfe
            go_wp2_with fail
            refine (haw _).mono ?_
            rintro e w3 ⟨rfl, b3⟩
            have HB3 := Lib.hid (HB2.out.trans (b3.mono HB2.out.size))
            clear b3
            go_wp2
            go_ret
            exact ⟨rfl, HB3.out⟩
        · have d3 : decide ((40 : Int) < (high.size : Int)) = true := decide_eq_true (by omega)
          clear h1 h2 h3
          go_enter Try.func6, Try.ntmps6
          go_wp2_with fail
          refine (haw _).mono ?_
          rintro e w1 ⟨rfl, b1⟩
          have HB2 := Lib.hid b1
          have hfe := HF.out w1 HB2.out
          clear b1
          go_wp2_with fail
          refine hfe.mono ?_
          rintro e w1' ⟨rfl, rfl⟩
          clear hfe
          go_wp2_with fail
          refine (haw _).mono ?_
          rintro e w3 ⟨rfl, b3⟩
          have HB3 := Lib.hid (HB2.out.trans (b3.mono HB2.out.size))
          clear b3
          go_wp2
          go_ret
          exact ⟨rfl, HB3.out⟩
      · have d2 : decide ((40 : Int) < (mid.size : Int)) = true := decide_eq_true (by omega)
        clear h1 h2
        go_enter Try.func6, Try.ntmps6
        go_wp2_with fail
        refine (haw _).mono ?_
        rintro e w1 ⟨rfl, b1⟩
        have HB2 := Lib.hid b1
        have hfe := HF.out w1 HB2.out
        clear b1
        go_wp2_with fail
        refine hfe.mono ?_
        rintro e w1' ⟨rfl, rfl⟩
        clear hfe
        go_wp2_with fail
        refine (haw _).mono ?_
        rintro e w3 ⟨rfl, b3⟩
        have HB3 := Lib.hid (HB2.out.trans (b3.mono HB2.out.size))
        clear b3
        go_wp2
        go_ret
        exact ⟨rfl, HB3.out⟩
    · have d1 : decide ((40 : Int) < (lo.size : Int)) = true := decide_eq_true (by omega)
      clear h1
      go_enter Try.func6, Try.ntmps6
      go_wp2_with fail
      refine (haw _).mono ?_
      rintro e w1 ⟨rfl, b1⟩
      have HB2 := Lib.hid b1
      have hfe := HF.out w1 HB2.out
      clear b1
      go_wp2_with fail
      refine hfe.mono ?_
      rintro e w1' ⟨rfl, rfl⟩
      clear hfe
      go_wp2_with fail
      refine (haw _).mono ?_
      rintro e w3 ⟨rfl, b3⟩
      have HB3 := Lib.hid (HB2.out.trans (b3.mono HB2.out.size))
      clear b3
      go_wp2
      go_ret
      exact ⟨rfl, HB3.out⟩
  · have HF : Hid (∀ w', Below w.heap.size w w' → Calls Try.prog 8 #[.slice a l.length c] w' fun e w2 => e = .returned (.int .i64 0) ∧ w' = w2) := Lib.hid (fun w' hb => by
      have := few_any a l c w' (HC.out.e.below hb)
      rwa [fewE_no hf] at this)
    clear hf
    go_enter Try.func6, Try.ntmps6
    go_wp2_with fail
    refine (haw _).mono ?_
    rintro e w1 ⟨rfl, b1⟩
    have HB2 := Lib.hid b1
    have hfe := HF.out w1 HB2.out
    clear b1
    go_wp2_with fail
    refine hfe.mono ?_
    rintro e w1' ⟨rfl, rfl⟩
    clear hfe
    go_wp2_with fail
    refine (haw _).mono ?_
    rintro e w3 ⟨rfl, b3⟩
    have HB3 := Lib.hid (HB2.out.trans (b3.mono HB2.out.size))
    clear b3
    go_wp2
    go_ret
    exact ⟨rfl, HB3.out⟩
end Go.Proofs.Ythglldnhffkefaa
