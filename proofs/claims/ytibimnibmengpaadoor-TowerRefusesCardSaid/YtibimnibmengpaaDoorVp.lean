/- For any keys, place and text rundlelaw17.TowerPasses returns true. Condition: the library's table stands. -/
import Derived.Test.YtibimnibmengpaaDoorVc
namespace Go.Proofs.YtibimnibmengpaaDoor
open Go.RowKit Go.Op
set_option maxRecDepth 100000

theorem hx14 (zs : Array Value) (w : World) : (callFunc 14 zs).run Tryd.prog w = .ok (.enter 14 zs) w := by kernel_rfl
theorem alloc_3 (w : World) : (Instr.alloc 3 true (.tuple #[])).run Tryd.prog w = .ok (.pointer (some ⟨w.heap.size, 0, none⟩)) (w.alloc (.cells #[.int .i64 0] 3)) := by kernel_rfl
theorem st_3 {w : World} {p : Addr} {u : Value} (x : Int) (h : w.cell? p = some u) (hf : w.frozen? p = false) : (Instr.storeAt 3 (.pointer (some p)) (.int .i64 x)).run Tryd.prog w = .ok () (w.setCell p (.int .i64 x)) := by go_simp
theorem max_3 (i v : Nat) (ty : TypeId) (w : World) : (Builtin.max_ #[3, 3] ty #[.int .i64 (i : Int), .int .i64 (v : Int)]).run Tryd.prog w = .ok (.int .i64 ((max i v : Nat) : Int)) w := by
  simp only [Builtin.max_]
  show Result.ok (Value.int .i64 (if (v : Int) > (i : Int) then (v : Int) else (i : Int))) w = _
  congr 2
  split <;> omega
section
variable {P : Program} {effs : List Nat} {ops : Array Oper} {S : List Bool → (Nat → Value) → World → Prop} {i : Nat} {o0 : Oper}
theorem d_max2 (ho : ops[i]? = some o0) {T : TypeId} {x y : Operand} (hop : o0.op = .call { callee := .builtin .max, args := #[x, y], argTypes := #[T, T] }) {vx vy v : (Nat → Value) → Value} (h : ∀ β ty w, (Builtin.max_ #[T, T] ty #[vx β, vy β]).run P w = .ok (v β) w) : FreeV.Does P effs ops S ⟨i, fun β => [vx β, vy β], v, .pure⟩ := by
  rintro o h1 β ρ h2 w
  rw [ho] at h1
  cases h1
  rw [hop] at h2
  have h3 : ρ x = vx β ∧ ρ y = vy β := by simpa [Op.operands, Call.operands] using h2
  simp [execOp, hop, h3.1, h3.2, resolve, invoke, builtin, h]
end
/-- Within a region that makes a number's variable and stores it. -/
structure LM (w2 : World) (x : Int) (bs : List Bool) (β : Nat → Value) (W : World) : Prop where
  bel : Below w2.heap.size w2 W
  ord : bs[0]? = some false → bs[1]? = some false
  two : bs[0]? = some true → ∃ z, β 6 = .pointer (some ⟨z, 0, none⟩) ∧ w2.heap.size ≤ z ∧ (bs[1]? = some false → SVar W z [.int .i64 0]) ∧ (bs[1]? = some true → SVar W z [.int .i64 x])
theorem lm_start {w2 : World} {x : Int} {β : Nat → Value} : LM w2 x [false, false] β w2.drew := ⟨(Below.refl _ _).drew, fun _ => rfl, fun e => (by cases e)⟩
theorem lm_alloc {w2 W : World} {x : Int} {bs : List Bool} {β : Nat → Value} (h : LM w2 x bs β W) (b0 : bs[0]? = some false) : ∃ u w', (Instr.alloc 3 true (.tuple #[])).run Tryd.prog W = .ok u w' ∧ LM w2 x (bs.set 0 true) (FreeV.upd β 6 u) w' := by
  have b1 := h.ord b0
  refine ⟨_, _, alloc_3 W, h.bel.alloc h.bel.size _, fun e => (by rw [set_at b0] at e; cases e), fun _ => ⟨_, by simp [FreeV.upd], h.bel.size, fun _ => snew W [.int .i64 0] 3, fun e => ?_⟩⟩
  rw [List.getElem?_set_ne (by decide), b1] at e
  cases e
theorem lm_store {w2 W : World} {x : Int} {bs : List Bool} {β : Nat → Value} (h : LM w2 x bs β W) (b0 : bs[0]? = some true) (b1 : bs[1]? = some false) : ∃ w', (Instr.storeAt 3 (β 6) (.int .i64 x)).run Tryd.prog W = .ok () w' ∧ LM w2 x (bs.set 1 true) β w' := by
  obtain ⟨z, ez, hz, h1, -⟩ := h.two b0
  have hs := h1 b1
  have bt : But z W (W.setCell ⟨z, 0, none⟩ (.int .i64 x)) := (But.refl _ _).set _ _
  refine ⟨_, by rw [ez]; exact st_3 x (hs.cell (i := 0) rfl) (hs.fz 0), h.bel.trans (bt.belowAt hz h.bel.size), fun e => ?_, fun _ => ⟨z, ez, hz, fun e => (by rw [set_at b1] at e; cases e), fun _ => hs.set (i := 0) (by simp) _⟩⟩
  rw [List.getElem?_set_ne (by decide), b0] at e
  cases e
set_option maxHeartbeats 8000000 in
theorem passesLaw (w : World) (hT : TabAt w) (a1 : Option Addr) (ks : List ByteArray) (cap1 : Nat) (hks : KArg w (.slice a1 ks.length cap1) ks) (hkl : ks.length ≤ 9223372036854775807) (v1 : Int) (hv1 : (Lit.int .u8 v1).wf = true) (t : ByteArray) (htl : t.size ≤ maxLen) :
    Calls Tryd.prog 7 #[.slice a1 ks.length cap1, .int .u8 v1, .string t] w fun e w' => e = .returned (.bool true) ∧ Below w.heap.size w w' := by
  obtain ⟨u, rfl, hu⟩ : ∃ u : Nat, v1 = (u : Int) ∧ u ≤ 255 := by
    have h := hv1
    simp [Lit.wf, IntKind.min, IntKind.max, IntKind.signed, IntKind.bits] at h
    exact ⟨v1.toNat, by omega, by omega⟩
  have hu1 : (u : Int) ≤ 255 := by omega
  have hu0 : (0 : Int) ≤ (u : Int) := by omega
  replace htl : t.size ≤ 9223372036854775807 := htl
  obtain ⟨wa, hwa⟩ : ∃ W, W = w.alloc (.cells #[.string t] 9) := ⟨_, rfl⟩
  have hza : wa.heap.size = w.heap.size + 1 := by rw [hwa]; simp
  have hba : Below w.heap.size w wa := by rw [hwa]; exact (Below.refl _ _).alloc (Nat.le_refl _) _
  have sk : SVar wa w.heap.size [.string t] := by rw [hwa]; exact snew _ _ _
  have haw := awake_any wa (hT.below hba)
  have HW := Lib.hid hwa.symm
  have HA := Lib.hid (⟨hza, hba, sk, hT, hks, hkl⟩ : _ ∧ _ ∧ _ ∧ _ ∧ _ ∧ _)
  have htl2 : (t.size : Int) ≤ 9223372036854775807 := by omega
  clear hza hba hwa hT hks hkl
  go_enter Tryd.func7, Tryd.ntmps7
  go_wp2_with (first | rw [HW.out] | fail)
  refine haw.mono ?_
  rintro e w1 ⟨rfl, hb1⟩
  obtain ⟨hza, hba, -, hT, hks, hkl⟩ := HA.out
  have hs1 := hb1.size
  have hbw1 : Below w.heap.size w w1 := hba.trans (hb1.mono (by omega))
  have haw1 := awake_any w1 (hT.below hbw1)
  obtain ⟨a1', cap1', e1, hsr⟩ := (hks.later hbw1).val
  obtain ⟨rfl, -, rfl⟩ := Value.slice.inj e1
  have hlong := long_any w1 a1 cap1 ks (by omega) hsr
  have hlay := lay_any w1 (hT.below hbw1) (.slice a1 ks.length cap1) none 0 ks []
  have ck := (sk.later hb1).cell (i := 0) rfl
  have HB1 := Lib.hid (⟨hbw1, sk.later hb1, hks.later hbw1⟩ : _ ∧ _ ∧ _)
  clear haw hb1 hza hba hT hks hs1 hbw1 hsr e1 hkl HW sk
  go_wp2_with fail
  refine hlong.mono ?_
  rintro e w1' ⟨⟨rb, rfl, hrb⟩, rfl⟩
  cases rb with
  | true =>
    clear hrb hlay hlong
    go_wp2_with fail
    refine haw1.mono ?_
    rintro e w2 ⟨rfl, hb2⟩
    have HE : Hid (Below w.heap.size w w2) := HB1.out.1.trans (hb2.mono HB1.out.1.size)
    clear haw1 hb2
    go_wp2_with fail
    go_ret
    exact ⟨rfl, HE.out⟩
  | false =>
  have hk40 := hrb rfl
  by_cases ht : t.size ≤ 20000
  rotate_left
  · have ht2 : (20000 : Int) < (t.size : Int) := by omega
    clear hrb hlay hlong ht
    go_wp2_with fail
    refine haw1.mono ?_
    rintro e w2 ⟨rfl, hb2⟩
    have HE : Hid (Below w.heap.size w w2) := HB1.out.1.trans (hb2.mono HB1.out.1.size)
    clear haw1 hb2
    go_wp2_with fail
    go_ret
    exact ⟨rfl, HE.out⟩
  have ht2 : ¬ (20000 : Int) < (t.size : Int) := by omega
  have ht3 : decide ((20000 : Int) < (t.size : Int)) = false := decide_eq_false ht2
  have hlay := hlay hk40 HB1.out.2.2 ⟨fun b hb => (by cases hb), .inl rfl⟩ (by decide)
  have HK := Lib.hid hk40
  clear hrb hlong haw1
  go_wp2_with fail
  refine hlay.mono ?_
  rintro e w2 ⟨⟨b, c, r, G, m, y, l, rfl, hY⟩, hb2⟩
  obtain ⟨w3, hw3⟩ : ∃ W, W = w2.alloc (.cells y.row.toArray 29) := ⟨_, rfl⟩
  have hb3 : Below w2.heap.size w2 w3 := by rw [hw3]; exact (Below.refl _ _).alloc (Nat.le_refl _) _
  obtain ⟨gl, ol, cl, gt, ot, ct, gh, oh, ch, ey, hyw⟩ := hY.yw (W := w3) HK.out hb3 (by rw [hw3]; exact hY.has.fresh (.cells y.row.toArray 29)) (by rw [hw3]; exact snew _ _ _)
  obtain ⟨n, hn⟩ : ∃ n, n = (lowsOf ks).length := ⟨_, rfl⟩
  rw [← hn] at ey
  subst ey
  have hn41 : n ≤ 41 := by have := (lowsOf_up ks).2.2; have := HK.out; omega
  have HW3 := Lib.hid hw3.symm
  rw [← hn] at hyw
  have hbw3 : Below w1.heap.size w1 w3 := hb2.trans (hb3.mono hb2.size)
  have sk3 := HB1.out.2.1.later hbw3
  have HNn := Lib.hid hn
  have HX := Lib.hid (⟨hyw, hbw3, sk3⟩ : _ ∧ _ ∧ _)
  unfold Yr.v
  simp only [Yr.row] at HW3
  have c3 := hyw.var.cell (i := 3) rfl
  have hn0 : 0 < n := by rw [hn]; exact (List.getElem?_eq_some_iff.1 hyw.good.zero).1
  have hn1 : (1 : Int) ≤ (n : Int) := by omega
  have hn42 : (n : Int) ≤ 41 := by omega
  have hn43 : (n : Int) ≠ 0 := by omega
  clear hlay hY hb2 hw3 hb3 hyw hbw3 sk3 ck hn
  go_wp2_with (first | rw [HW3.out] | fail)
  obtain ⟨i, hi⟩ : ∃ i : Nat, i = u % n := ⟨_, rfl⟩
  have hmod : (u : Int) % (n : Int) = (i : Int) := by rw [hi]; omega
  have hin : i < n := by rw [hi]; exact Nat.mod_lt _ hn0
  rw [hmod]
  clear hmod hi
  obtain ⟨w4, hw4⟩ : ∃ W, W = w3.alloc (.cells #[.int .i64 (i : Int)] 3) := ⟨_, rfl⟩
  rw [← hw4]
  obtain ⟨hyw, hbw3, sk3⟩ := HX.out
  have hb4 : Below w3.heap.size w3 w4 := by rw [hw4]; exact (Below.refl _ _).alloc (Nat.le_refl _) _
  have si : SVar w4 w3.heap.size [.int .i64 (i : Int)] := by rw [hw4]; exact snew _ _ _
  have li : LocM w1 b c r G w4 w3.heap.size := by rw [hw4]; exact hyw.has.fresh _
  have hyw4 := hyw.later hb4
  have sk4 := sk3.later hb4
  obtain ⟨vf, lo, hF, hlo⟩ := hyw4.good.find t
  have hgeo := hyw.has.ge
  have hwlt : w.heap.size < w1.heap.size := HB1.out.2.1.lt
  have HS : Hid (∀ W, Below w4.heap.size w4 W → (Instr.loadAt 3 (.pointer (some ⟨w3.heap.size, 0, none⟩))).run Tryd.prog W = .ok (.int .i64 (i : Int)) W ∧ (Instr.loadAt 22 (.pointer (some ⟨w2.heap.size, 1, none⟩))).run Tryd.prog W = .ok (.slice (some ⟨gl, ol, none⟩) n cl) W ∧ (Instr.loadAt 9 (.pointer (some ⟨w.heap.size, 0, none⟩))).run Tryd.prog W = .ok (.string t) W ∧
      Calls Tryd.prog 14 #[.slice (some ⟨gl, ol, none⟩) n cl, .string t] W fun e w' => e = .returned (.int .i64 (vf : Int)) ∧ w' = W) := fun W hb => by
    have hy := hyw4.later hb
    have hf := refFind_any W (some ⟨gl, ol, none⟩) cl (lowsOf ks) (by rw [← HNn.out]; omega) (hy.has.srow hy.la) t
    rw [← HNn.out] at hf
    exact ⟨load_3 ((si.later hb).cell (i := 0) rfl), load_22 (hy.var.cell (i := 1) rfl), load_9 ((sk4.later hb).cell (i := 0) rfl), hf.mono fun e w' ⟨⟨r', he, hF'⟩, hw⟩ => ⟨by rw [he, hF'.one hF], hw.symm⟩⟩
  have HX4 := Lib.hid (⟨hyw4, sk4, si, li, hF, hgeo, hwlt, hbw3, hb4⟩ : _ ∧ _ ∧ _ ∧ _ ∧ _ ∧ _ ∧ _ ∧ _ ∧ _)
  clear hyw hbw3 sk3 hb4 si li hyw4 sk4 hF hlo hgeo hwlt hw4 HX c3
  go_wp2_with fail
  refine FreeV.region_puts (S := LM w4 ((max i vf : Nat) : Int)) (effs := [6, 7])
    (tab := [⟨0, fun _ => [.pointer (some ⟨w3.heap.size, 0, none⟩)], fun _ => .int .i64 (i : Int), .read⟩,
      ⟨2, fun _ => [.pointer (some ⟨w2.heap.size, 1, none⟩)], fun _ => .slice (some ⟨gl, ol, none⟩) n cl, .read⟩,
      ⟨3, fun _ => [.pointer (some ⟨w.heap.size, 0, none⟩)], fun _ => .string t, .read⟩,
      ⟨4, fun _ => [.func (.func 14) #[] #[], .slice (some ⟨gl, ol, none⟩) n cl, .string t], fun _ => .int .i64 (vf : Int), .ask⟩,
      ⟨5, fun _ => [.int .i64 (i : Int), .int .i64 (vf : Int)], fun _ => .int .i64 ((max i vf : Nat) : Int), .pure⟩,
      ⟨6, fun _ => [], fun β => (β 6), .eff⟩,
      ⟨7, fun β => [β 6, .int .i64 ((max i vf : Nat) : Int)], fun _ => undef, .put⟩])
    (vs := [([], fun _ => .int .i64 (i : Int)), ([], fun _ => .pointer (some ⟨w2.heap.size, 1, none⟩)), ([], fun _ => .slice (some ⟨gl, ol, none⟩) n cl), ([], fun _ => .string t), ([], fun _ => .int .i64 (vf : Int)), ([], fun _ => .int .i64 ((max i vf : Nat) : Int)), ([6], fun l => l.headD undef), ([], fun _ => undef)])
    (by kernel_rfl) ⟨by kernel_rfl, ⟨FreeV.d_load _ rfl rfl (fun β bs W hS hd => (HS.out W hS.bel).1),
      FreeV.d_load _ rfl rfl (fun β bs W hS hd => (HS.out W hS.bel).2.1),
      FreeV.d_load _ rfl rfl (fun β bs W hS hd => (HS.out W hS.bel).2.2.1),
      FreeV.d_ask2 _ rfl rfl hx14 (fun β bs W hS hd => ((HS.out W hS.bel).2.2.2).mono fun e w' he => ⟨he.1, he.2 ▸ hS⟩),
      d_max2 rfl rfl (fun _ ty w => max_3 i vf ty w),
      FreeV.d_alloc _ rfl rfl 0 rfl (fun β bs W hS hd => lm_alloc hS ((hd 0 6 rfl).2 (.inr rfl))),
      FreeV.d_store _ rfl rfl 1 rfl (fun β bs W hS hd => lm_store hS ((hd 0 6 rfl).1 (by kernel_rfl)) ((hd 1 7 rfl).2 (.inr rfl))),
      trivial⟩,
      fun β => by kernel_rfl, fun β => by kernel_rfl, by kernel_rfl, fun β => by kernel_rfl, by kernel_rfl⟩ lm_start (fun β => Free.from_ 38 [.int .i64 (i : Int), .pointer (some ⟨w2.heap.size, 1, none⟩), .slice (some ⟨gl, ol, none⟩) n cl, .string t, .int .i64 (vf : Int), .int .i64 ((max i vf : Nat) : Int)] ++ [(10, β 6)]) (fun β => by kernel_rfl) ?_
  intro β w5 h5
  rw [FreeX.puts_append, Free.puts_from _ _ _ (Nat.le_of_ble_eq_true rfl)]
  simp only [List.take_succ_cons, List.take_zero, List.drop_succ_cons, List.drop_zero, List.cons_append, List.nil_append, List.length_cons, List.length_nil, Nat.reduceAdd]
  unfold Free.puts
  simp only [List.foldl_cons, List.foldl_nil]
  obtain ⟨zw, ez, hzw, -, hsw⟩ := h5.two rfl
  have sw := hsw rfl
  have hb5 := h5.bel
  rw [ez]
  obtain ⟨hyw4, sk4, si, li, hF, hgeo, hwlt, hbw3, hb4⟩ := HX4.out
  have hyw5 := hyw4.later hb5
  have hltb : b < w4.heap.size ∧ c < w4.heap.size ∧ r < w4.heap.size := by
    obtain ⟨m0, h1, -⟩ := hyw4.has
    exact ⟨h1.at_.own.lb, h1.at_.own.lc, h1.at_.own.lr⟩
  have hdo := do_any w5 b 30 #[.pointer (some ⟨w2.heap.size, 0, none⟩), .pointer (some ⟨w3.heap.size, 0, none⟩), .pointer (some ⟨w.heap.size, 0, none⟩), .pointer (some ⟨zw, 0, none⟩)] _ he30
    (passes1_any hyw5 t i vf hF hin (si.later hb5) (sk4.later hb5) sw (by have := li.ne; simp only [List.mem_cons, List.not_mem_nil, or_false]; omega) (by simp only [List.mem_cons, List.not_mem_nil, or_false]; omega) (by simp only [List.mem_cons, List.not_mem_nil, or_false]; omega))
  have c05 := hyw5.var.cell (i := 0) rfl
  have ay := as4_yes
  have HE5 := Lib.hid (⟨HB1.out.1.trans (((hbw3.trans (hb4.mono hbw3.size)).trans (hb5.mono (Nat.le_trans hbw3.size hb4.size))).mono (Nat.le_of_lt hwlt)), hgeo, hwlt⟩ : _ ∧ _ ∧ _)
  clear h5 ez hzw hsw sw hb5 hyw4 sk4 si li hF hgeo hwlt hbw3 hb4 hyw5 hltb HX4 HS
  simp only [Act.put, List.setIfInBounds_toArray, List.set_cons_succ, List.set_cons_zero]
  go_wp2_with fail
  refine hdo.mono ?_
  rintro e w6 ⟨u1, rfl, rfl, hbn⟩
  have HE : Hid (Below w.heap.size w w6) := by
    obtain ⟨h1, h2, h3⟩ := HE5.out
    have := h1.size
    exact h1.trans ⟨hbn.os, hbn.tape, hbn.output, hbn.size, fun k hk => hbn.block k (by omega) (by simp only [List.mem_cons, List.not_mem_nil, or_false]; omega)⟩
  clear hdo hbn c05
  go_wp2_with fail
  go_ret
  exact ⟨rfl, HE.out⟩
end Go.Proofs.YtibimnibmengpaaDoor
