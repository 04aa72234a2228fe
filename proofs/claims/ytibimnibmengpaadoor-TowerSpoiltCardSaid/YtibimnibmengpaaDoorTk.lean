/- What rev.New answers of no entries. No condition. -/
import Derived.Test.YtibimnibmengpaaDoorTj
namespace Go.Proofs.YtibimnibmengpaaDoor
open Go.RowKit Go.Op
set_option maxRecDepth 100000

theorem info9 : (Tryd.prog.info? 9).map (fun i => (i.zero, i.size, i.bytes)) = some (some (.string ⟨#[]⟩), 1, 16) := by kernel_rfl
theorem info4 : (Tryd.prog.info? 4).map (fun i => (i.zero, i.size, i.bytes)) = some (some (.bool false), 1, 1) := by kernel_rfl
theorem size0_any (w : World) : Calls Tryd.prog 94 #[.int .i64 0] w fun e w' => e = .returned (.int .i64 2) ∧ w' = w := by
  have hb := fun w => Tryd.bits_Len 0 w (by decide) (by decide)
  go_enter Tryd.func94, Tryd.ntmps94
  go_wp2_with fail
  refine (hb _).mono ?_
  rintro e w1 ⟨rfl, rfl⟩
  go_wp2
  go_ret
  exact ⟨ret_i64 (by decide +kernel), rfl⟩
theorem build0_any (w : World) (a : Option Addr) (cap : Nat) : Calls Tryd.prog 80 #[.slice a 0 cap] w fun e w' => ∃ g, e = .returned (.slice (some ⟨g, 0, none⟩) 2 2) ∧ w.heap.size ≤ g ∧ Rw w' g (ints [0, 0]) ∧ Below w.heap.size w w' := by
  have hs := size0_any w
  have hmk : (Instr.makeSlice 27 (.int .i64 2) (.int .i64 2)).run Tryd.prog w = .ok (.slice (some ⟨w.heap.size, 0, none⟩) 2 2) (w.alloc (.cells #[.int .i64 0, .int .i64 0] 3)) := by
    obtain ⟨i0, hi, hz0, hz1, hz2⟩ := info_parts info3
    have hr := run_make (P := Tryd.prog) w 27 3 i0 _ Tryd.underlying27 hi hz0 .i64 .i64 2 2 (by omega) (by omega) (by rw [hz2]; omega) (by omega)
    rw [hz1] at hr
    have e : madeCells (Value.int .i64 0).cells (Int.toNat 2 * 1) = #[.int .i64 0, .int .i64 0] := by kernel_rfl
    rw [e] at hr
    exact hr
  have HF : Hid (Rw (w.alloc (.cells #[.int .i64 0, .int .i64 0] 3)) w.heap.size (ints [0, 0]) ∧ Below w.heap.size w (w.alloc (.cells #[.int .i64 0, .int .i64 0] 3))) :=
    ⟨⟨by simp, fun i x hx => (snew w (ints [0, 0]) 3).cell hx⟩, (Below.refl _ _).alloc (Nat.le_refl _) _⟩
  have HL : Hid (w.heap.size ≤ w.heap.size) := Nat.le_refl _
  go_enter Tryd.func80, Tryd.ntmps80
  go_wp2_with fail
  refine hs.mono ?_
  rintro e w1 ⟨rfl, rfl⟩
  obtain ⟨w2, hw2⟩ : ∃ W, W = w1.alloc (.cells #[.int .i64 0, .int .i64 0] 3) := ⟨_, rfl⟩
  rw [← hw2] at HF hmk
  clear hw2 hs
  go_wp2
  go_loopw [13] (fun iv wr => iv = .int .i64 0 ∧ wr = w2) (fun _ _ => 0)
  case atStart => exact ⟨rfl, rfl⟩
  case round =>
    obtain ⟨rfl, rfl⟩ := hrel
    go_wp2
    go_ret
    exact ⟨_, rfl, HL.out, HF.out⟩
theorem right0_any (sp : Kp) (w : World) : Calls Tryd.prog 58 #[sp.v, .slice none 0 0] w fun e w' => e = .returned (.bool true) ∧ Below w.heap.size w w' := by
  obtain ⟨lo, hi, all⟩ := sp
  have HB : Hid (Below w.heap.size w (w.alloc (.cells #[.string lo, .string hi, .bool all] 49))) := (Below.refl _ _).alloc (Nat.le_refl _) _
  unfold Kp.v
  simp only
  go_enter Tryd.func58, Tryd.ntmps58
  go_wp2
  go_loopw [9] (fun iv wr => iv = .int .i64 0 ∧ wr = w.alloc (.cells #[.string lo, .string hi, .bool all] 49)) (fun _ _ => 0)
  case atStart => exact ⟨rfl, rfl⟩
  case round =>
    obtain ⟨rfl, rfl⟩ := hrel
    go_wp2
    go_ret
    exact ⟨rfl, HB.out⟩
theorem len_113 (ty : TypeId) (w : World) : (Builtin.len_ #[113] ty #[.slice none 0 0]).run Tryd.prog w = .ok (.int .i64 0) w := by kernel_rfl
theorem sh49 : Shape 49 3 := ⟨⟨_, Tryd.underlying49, rfl⟩, by kernel_rfl⟩
theorem mk22_0 (w : World) : (Instr.makeSlice 22 (.int .i64 0) (.int .i64 0)).run Tryd.prog w = .ok (.slice (some ⟨w.heap.size, 0, none⟩) 0 0) (w.alloc (.cells #[] 9)) := by
  obtain ⟨i0, hi, hz0, hz1, hz2⟩ := info_parts info9
  have hr := run_make (P := Tryd.prog) w 22 9 i0 _ Tryd.underlying22 hi hz0 .i64 .i64 0 0 (by omega) (by omega) (by rw [hz2]; omega) (by omega)
  rw [hz1] at hr
  have e : madeCells (Value.string ⟨#[]⟩).cells (Int.toNat 0 * 1) = #[] := by kernel_rfl
  rw [e] at hr
  exact hr
theorem mk50_0 (w : World) : (Instr.makeSlice 50 (.int .i64 0) (.int .i64 0)).run Tryd.prog w = .ok (.slice (some ⟨w.heap.size, 0, none⟩) 0 0) (w.alloc (.cells #[] 4)) := by
  obtain ⟨i0, hi, hz0, hz1, hz2⟩ := info_parts info4
  have hr := run_make (P := Tryd.prog) w 50 4 i0 _ Tryd.underlying50 hi hz0 .i64 .i64 0 0 (by omega) (by omega) (by rw [hz2]; omega) (by omega)
  rw [hz1] at hr
  have e : madeCells (Value.bool false).cells (Int.toNat 0 * 1) = #[] := by kernel_rfl
  rw [e] at hr
  exact hr
def sl0 (g : Nat) : Value := .slice (some ⟨g, 0, none⟩) 0 0
def layRow (ver rate : Int) (sp : Kp) (g0 g1 g2 : Nat) (s3 : Value) : List Value := [.int .i64 ver, .int .i64 rate, .string sp.lo, .string sp.hi, .bool sp.all, .bool false, sl0 g0, sl0 g1, sl0 g2, s3]
/-- Within lay's region. -/
structure LY (ver rate : Int) (sp : Kp) (w2 : World) (bs : List Bool) (β : Nat → Value) (W : World) : Prop where
  bel : Below w2.heap.size w2 W
  ks : ∀ q j : Nat, (q, j) ∈ [(0, 5), (1, 8), (2, 11)] → bs[q]? = some true → ∃ g, β j = sl0 g
  va : bs[3]? = some true → ∃ z, β 13 = .pointer (some ⟨z, 0, none⟩) ∧ w2.heap.size ≤ z ∧ (bs[4]? = some false → SVar W z (rv0.row .nil)) ∧ (bs[4]? = some true → ∃ g0 g1 g2, SVar W z (layRow ver rate sp g0 g1 g2 (.slice none 0 0)))
theorem ly_make {ver rate : Int} {sp : Kp} {w2 : World} {bs : List Bool} {β : Nat → Value} {W : World} (h : LY ver rate sp w2 bs β W) (q0 j0 : Nat) (hm : (q0, j0) ∈ [(0, 5), (1, 8), (2, 11)]) (b4 : bs[4]? = some false) (o : Obj) :
    LY ver rate sp w2 (bs.set q0 true) (FreeV.upd β j0 (sl0 W.heap.size)) (W.alloc o) := by
  simp only [List.mem_cons, Prod.mk.injEq, List.not_mem_nil, or_false] at hm
  refine ⟨h.bel.alloc h.bel.size _, fun q j hq e => ?_, fun e => ?_⟩
  · by_cases hj : j = j0
    · exact ⟨W.heap.size, by simp [FreeV.upd, hj]⟩
    · have hq2 := hq
      simp only [List.mem_cons, Prod.mk.injEq, List.not_mem_nil, or_false] at hq2
      obtain ⟨g, hg⟩ := h.ks q j hq (by rw [← e]; exact (List.getElem?_set_ne (by omega)).symm)
      exact ⟨g, by simp [FreeV.upd, hj, hg]⟩
  · rw [List.getElem?_set_ne (by omega)] at e
    obtain ⟨z, h1, h2, h3, h4⟩ := h.va e
    refine ⟨z, by simp [FreeV.upd, show ¬ (13 = j0) by omega, h1], h2, fun _ => (h3 b4).later ((Below.refl _ _).alloc (Nat.le_refl _) _), fun e4 => ?_⟩
    rw [List.getElem?_set_ne (by omega), b4] at e4
    cases e4
theorem alloc_52 (w : World) : (Instr.alloc 52 true (.tuple #[])).run Tryd.prog w = .ok (.pointer (some ⟨w.heap.size, 0, none⟩)) (w.alloc (.cells (rv0.row .nil).toArray 52)) := by kernel_rfl
theorem ly_alloc {ver rate : Int} {sp : Kp} {w2 : World} {bs : List Bool} {β : Nat → Value} {W : World} (h : LY ver rate sp w2 bs β W) (b4 : bs[4]? = some false) :
    LY ver rate sp w2 (bs.set 3 true) (FreeV.upd β 13 (.pointer (some ⟨W.heap.size, 0, none⟩))) (W.alloc (.cells (rv0.row .nil).toArray 52)) := by
  refine ⟨h.bel.alloc h.bel.size _, fun q j hq e => ?_, fun _ => ⟨W.heap.size, by simp [FreeV.upd], h.bel.size, fun _ => snew _ _ _, fun e4 => ?_⟩⟩
  · have hq2 := hq
    simp only [List.mem_cons, Prod.mk.injEq, List.not_mem_nil, or_false] at hq2
    obtain ⟨g, hg⟩ := h.ks q j hq (by rw [← e]; exact (List.getElem?_set_ne (by omega)).symm)
    exact ⟨g, by simp [FreeV.upd, show ¬ (j = 13) by omega, hg]⟩
  · rw [List.getElem?_set_ne (by omega), b4] at e4
    cases e4
theorem ly_build {ver rate : Int} {sp : Kp} {w2 : World} {bs : List Bool} {β : Nat → Value} {W : World} (h : LY ver rate sp w2 bs β W) (b0 : bs[0]? = some true) (b1 : bs[1]? = some true) (b2 : bs[2]? = some true) :
    (Instr.build 52 #[(0, .int .i64 ver), (1, .int .i64 rate), (2, sp.v), (4, β 5), (5, β 8), (6, β 11)]).run Tryd.prog W = .ok (.agg #[.int .i64 ver, .int .i64 rate, .string sp.lo, .string sp.hi, .bool sp.all, .bool false, β 5, β 8, β 11, .slice none 0 0]) W := by
  obtain ⟨g0, e0⟩ := h.ks 0 5 (by decide) b0
  obtain ⟨g1, e1⟩ := h.ks 1 8 (by decide) b1
  obtain ⟨g2, e2⟩ := h.ks 2 11 (by decide) b2
  rw [e0, e1, e2]
  kernel_rfl
theorem ly_store {ver rate : Int} {sp : Kp} {w2 : World} {bs : List Bool} {β : Nat → Value} {W : World} (h : LY ver rate sp w2 bs β W) (b0 : bs[0]? = some true) (b1 : bs[1]? = some true) (b2 : bs[2]? = some true) (b3 : bs[3]? = some true) (b4 : bs[4]? = some false) :
    ∃ W', (Instr.storeAt 52 (β 13) (.agg #[.int .i64 ver, .int .i64 rate, .string sp.lo, .string sp.hi, .bool sp.all, .bool false, β 5, β 8, β 11, .slice none 0 0])).run Tryd.prog W = .ok () W' ∧ LY ver rate sp w2 (bs.set 4 true) β W' := by
  obtain ⟨g0, e0⟩ := h.ks 0 5 (by decide) b0
  obtain ⟨g1, e1⟩ := h.ks 1 8 (by decide) b1
  obtain ⟨g2, e2⟩ := h.ks 2 11 (by decide) b2
  obtain ⟨z, ez, hz, h3, -⟩ := h.va b3
  have sv := h3 b4
  have hst := sv.store (row' := layRow ver rate sp g0 g1 g2 (.slice none 0 0)) rfl sh40 (by
    intro v hv
    simp only [layRow, List.mem_cons, List.not_mem_nil, or_false] at hv
    rcases hv with rfl | rfl | rfl | rfl | rfl | rfl | rfl | rfl | rfl | rfl <;> rfl)
  refine ⟨sput W z (layRow ver rate sp g0 g1 g2 (.slice none 0 0)), by rw [ez, e0, e1, e2]; exact hst, ?_, fun q j hq e => ?_, fun _ => ⟨z, ez, hz, fun e4 => ?_, fun _ => ⟨g0, g1, g2, sv.put rfl⟩⟩⟩
  · have hb : But z W (sput W z (layRow ver rate sp g0 g1 g2 (.slice none 0 0))) := But.sput _ _ _
    exact h.bel.trans (hb.belowAt hz h.bel.size)
  · have hq2 := hq
    simp only [List.mem_cons, Prod.mk.injEq, List.not_mem_nil, or_false] at hq2
    exact h.ks q j hq (by rw [← e]; exact (List.getElem?_set_ne (by omega)).symm)
  · rw [set_at b4] at e4
    cases e4
section
variable {P : Program} {effs : List Nat} {ops : Array Oper} {S : List Bool → (Nat → Value) → World → Prop} {i : Nat} {o0 : Oper}
theorem d_build6 (ho : ops[i]? = some o0) {T : TypeId} {x1 x2 x3 x4 x5 x6 : Operand} {k1 k2 k3 k4 k5 k6 : Nat} (hop : o0.op = .build T #[(k1, x1), (k2, x2), (k3, x3), (k4, x4), (k5, x5), (k6, x6)]) {v1 v2 v3 v4 v5 v6 v : (Nat → Value) → Value}
    (h : ∀ β bs w, S bs β w → FreeV.Due ops effs i bs → (Instr.build T #[(k1, v1 β), (k2, v2 β), (k3, v3 β), (k4, v4 β), (k5, v5 β), (k6, v6 β)]).run P w = .ok (v β) w) : FreeV.Does P effs ops S ⟨i, fun β => [v1 β, v2 β, v3 β, v4 β, v5 β, v6 β], v, .read⟩ := by
  rintro o h1 β ρ h2 bs w hS hd
  rw [ho] at h1
  cases h1
  rw [hop] at h2
  simp [Op.operands] at h2
  simp [execOp, hop, h2, h β bs w hS hd]
end
set_option maxHeartbeats 2000000 in
theorem lay0_any (ver rate : Int) (sp : Kp) (w : World) : Calls Tryd.prog 59 #[.int .i64 ver, .int .i64 rate, sp.v, .slice none 0 0] w fun e w' => ∃ g0 g1 g2 g3, e = .returned (.agg (layRow ver rate sp g0 g1 g2 (.slice (some ⟨g3, 0, none⟩) 2 2)).toArray) ∧ w.heap.size ≤ g3 ∧ Rw w' g3 (ints [0, 0]) ∧ Below w.heap.size w w' := by
  obtain ⟨wb, hwb⟩ : ∃ W, W = w.alloc (.cells #[.string sp.lo, .string sp.hi, .bool sp.all] 49) := ⟨_, rfl⟩
  obtain ⟨w2, hw2⟩ : ∃ W, W = wb.alloc (.cells (rv0.row .nil).toArray 52) := ⟨_, rfl⟩
  have b1 : Below w.heap.size w wb := by rw [hwb]; exact (Below.refl _ _).alloc (Nat.le_refl _) _
  have b2 : Below wb.heap.size wb w2 := by rw [hw2]; exact (Below.refl _ _).alloc (Nat.le_refl _) _
  have hs1 : wb.heap.size = w.heap.size + 1 := by rw [hwb]; simp
  have hs2 : w2.heap.size = wb.heap.size + 1 := by rw [hw2]; simp
  have ssp : SVar wb w.heap.size [.string sp.lo, .string sp.hi, .bool sp.all] := by rw [hwb]; exact snew _ _ _
  have srs : SVar w2 wb.heap.size (rv0.row .nil) := by rw [hw2]; exact snew _ _ _
  have HB := Lib.hid (⟨b1, b2, hs1, hs2⟩ : _ ∧ _ ∧ _ ∧ _)
  have HS := Lib.hid (⟨ssp.later b2, srs⟩ : _ ∧ _)
  have HW := Lib.hid hwb.symm
  have HW2 := Lib.hid hw2.symm
  have mixed : Tryd.prog.follows .mixedOrders = true := by kernel_rfl
  unfold Kp.v
  simp only [Rv.row, rv0, Pl.nil, Sl.nil] at HW2
  clear hwb hw2 b1 b2 hs1 hs2 ssp srs
  go_enter Tryd.func59, Tryd.ntmps59
  go_wp2_with (first | rw [HW.out] | rw [HW2.out] | fail)
  refine FreeV.region_puts (S := LY ver rate sp w2) (effs := [5, 8, 11, 13, 14])
    (tab := [⟨2, fun _ => [.pointer (some ⟨w.heap.size, 0, none⟩)], fun _ => .agg #[.string sp.lo, .string sp.hi, .bool sp.all], .read⟩,
      ⟨4, fun _ => [.slice none 0 0], fun _ => .int .i64 0, .pure⟩,
      ⟨5, fun _ => [.int .i64 0, .int .i64 0], fun β => (β 5), .eff⟩,
      ⟨7, fun _ => [.slice none 0 0], fun _ => .int .i64 0, .pure⟩,
      ⟨8, fun _ => [.int .i64 0, .int .i64 0], fun β => (β 8), .eff⟩,
      ⟨10, fun _ => [.slice none 0 0], fun _ => .int .i64 0, .pure⟩,
      ⟨11, fun _ => [.int .i64 0, .int .i64 0], fun β => (β 11), .eff⟩,
      ⟨12, fun β => [.int .i64 ver, .int .i64 rate, .agg #[.string sp.lo, .string sp.hi, .bool sp.all], β 5, β 8, β 11], fun β => .agg #[.int .i64 ver, .int .i64 rate, .string sp.lo, .string sp.hi, .bool sp.all, .bool false, β 5, β 8, β 11, .slice none 0 0], .read⟩,
      ⟨13, fun _ => [], fun β => (β 13), .eff⟩,
      ⟨14, fun β => [β 13, .agg #[.int .i64 ver, .int .i64 rate, .string sp.lo, .string sp.hi, .bool sp.all, .bool false, β 5, β 8, β 11, .slice none 0 0]], fun _ => undef, .put⟩])
    (vs := [([], fun _ => .int .i64 ver), ([], fun _ => .int .i64 rate), ([], fun _ => .agg #[.string sp.lo, .string sp.hi, .bool sp.all]), ([], fun _ => .slice none 0 0), ([], fun _ => .int .i64 0), ([5], fun l => l.headD undef), ([], fun _ => .slice none 0 0), ([], fun _ => .int .i64 0), ([8], fun l => l.headD undef), ([], fun _ => .slice none 0 0), ([], fun _ => .int .i64 0), ([11], fun l => l.headD undef), ([5, 8, 11], fun l => .agg #[.int .i64 ver, .int .i64 rate, .string sp.lo, .string sp.hi, .bool sp.all, .bool false, l.getD 0 undef, l.getD 1 undef, l.getD 2 undef, .slice none 0 0]), ([13], fun l => l.headD undef), ([], fun _ => undef)])
    (by kernel_rfl) ⟨by kernel_rfl, ⟨FreeV.d_load _ rfl rfl (fun β bs W hS hd => (HS.out.1.later hS.bel).load sh49),
      FreeV.d_len _ rfl rfl (fun _ => len_113),
      FreeV.d_make _ rfl rfl 0 rfl (fun β bs W hS hd => ⟨_, _, mk22_0 W, ly_make hS 0 5 (by decide) ((hd 4 14 rfl).2 (.inl (by kernel_rfl))) _⟩),
      FreeV.d_len _ rfl rfl (fun _ => len_113),
      FreeV.d_make _ rfl rfl 1 rfl (fun β bs W hS hd => ⟨_, _, mk22_0 W, ly_make hS 1 8 (by decide) ((hd 4 14 rfl).2 (.inl (by kernel_rfl))) _⟩),
      FreeV.d_len _ rfl rfl (fun _ => len_113),
      FreeV.d_make _ rfl rfl 2 rfl (fun β bs W hS hd => ⟨_, _, mk50_0 W, ly_make hS 2 11 (by decide) ((hd 4 14 rfl).2 (.inl (by kernel_rfl))) _⟩),
      d_build6 rfl rfl (fun β bs W hS hd => ly_build (sp := sp) hS ((hd 0 5 rfl).1 (by kernel_rfl)) ((hd 1 8 rfl).1 (by kernel_rfl)) ((hd 2 11 rfl).1 (by kernel_rfl))),
      FreeV.d_alloc _ rfl rfl 3 rfl (fun β bs W hS hd => ⟨_, _, alloc_52 W, ly_alloc hS ((hd 4 14 rfl).2 (.inl (by kernel_rfl)))⟩),
      FreeV.d_store _ rfl rfl 4 rfl (fun β bs W hS hd => ly_store hS ((hd 0 5 rfl).1 (by kernel_rfl)) ((hd 1 8 rfl).1 (by kernel_rfl)) ((hd 2 11 rfl).1 (by kernel_rfl)) ((hd 3 13 rfl).1 (by kernel_rfl)) ((hd 4 14 rfl).2 (.inr rfl))),
      trivial⟩,
      fun β => by kernel_rfl, fun β => by kernel_rfl, by kernel_rfl, fun β => by kernel_rfl, by kernel_rfl⟩ ⟨(Below.refl _ _).drew, fun q j hq e => (by simp only [List.mem_cons, Prod.mk.injEq, List.not_mem_nil, or_false] at hq; rcases hq with ⟨rfl, -⟩ | ⟨rfl, -⟩ | ⟨rfl, -⟩ <;> cases e), fun e => (by cases e)⟩ (fun β => Free.from_ 12 [.int .i64 ver, .int .i64 rate, .agg #[.string sp.lo, .string sp.hi, .bool sp.all], .slice none 0 0, .int .i64 0, β 5, .slice none 0 0, .int .i64 0, β 8, .slice none 0 0, .int .i64 0, β 11, .agg #[.int .i64 ver, .int .i64 rate, .string sp.lo, .string sp.hi, .bool sp.all, .bool false, β 5, β 8, β 11, .slice none 0 0]] ++ [(9, β 13)]) (fun β => by kernel_rfl) ?_
  intro β w4 h4
  rw [FreeX.puts_append, Free.puts_from _ _ _ (Nat.le_of_ble_eq_true rfl)]
  simp only [List.take_succ_cons, List.take_zero, List.drop_succ_cons, List.drop_zero, List.cons_append, List.nil_append, List.length_cons, List.length_nil, Nat.reduceAdd]
  unfold Free.puts
  simp only [List.foldl_cons, List.foldl_nil]
  obtain ⟨z, ez, hz, -, h5⟩ := h4.va rfl
  obtain ⟨g0, g1, g2, sz⟩ := h5 rfl
  have hbel := h4.bel
  rw [ez]
  clear h4 h5 ez
  have hfw : Below w.heap.size w w4 := by
    obtain ⟨a1, a2, a3, a4⟩ := HB.out
    exact (a1.trans (a2.mono (by omega))).trans (hbel.mono (by omega))
  have srs := HS.out.2.later hbel
  have hbs := build0_any w4 (some ⟨g0, 0, none⟩) 0
  have c6 := sz.cell (i := 6) rfl
  have HB4 := Lib.hid (⟨hfw, hz⟩ : _ ∧ _)
  have HZ := Lib.hid (⟨sz, srs⟩ : _ ∧ _)
  unfold sl0 at c6
  clear hfw srs hbel hz sz HS HW HW2
  go_wp2_with fail
  go_loopw [27] (fun iv wr => iv = .int .i64 0 ∧ wr = w4) (fun _ _ => 0)
  case atStart => exact ⟨rfl, rfl⟩
  case round =>
    obtain ⟨rfl, rfl⟩ := hrel
    go_wp2_with fail
    refine hbs.mono ?_
    rintro e w5 ⟨g3, rfl, hg3, hr3, hb3⟩
    obtain ⟨sz, srs⟩ := HZ.out
    have sz5 := sz.later hb3
    have srs5 := srs.later hb3
    have hne : wb.heap.size ≠ z := by have := HB4.out.2; have := HB.out; omega
    have hne3 : g3 ≠ z := by have := sz.lt; omega
    have hne4 : g3 ≠ wb.heap.size := by have := srs.lt; omega
    have b6 : But z w5 (w5.setCell ⟨z, 9, none⟩ (.slice (some ⟨g3, 0, none⟩) 2 2)) := (But.refl _ _).set _ _
    have sz6 : SVar (w5.setCell ⟨z, 9, none⟩ (.slice (some ⟨g3, 0, none⟩) 2 2)) z (layRow ver rate sp g0 g1 g2 (.slice (some ⟨g3, 0, none⟩) 2 2)) := sz5.set (i := 9) (by simp [layRow]) _
    have srs6 := srs5.same b6.size (b6.block _ srs5.lt hne)
    have c9 := sz5.cell (i := 9) rfl
    have f9 := sz5.fz 9
    have hld := sz6.load sh40
    have hone : ∀ v ∈ layRow ver rate sp g0 g1 g2 (.slice (some ⟨g3, 0, none⟩) 2 2), v.oneCell' = true := by
      intro v hv
      simp only [layRow, List.mem_cons, List.not_mem_nil, or_false] at hv
      rcases hv with rfl | rfl | rfl | rfl | rfl | rfl | rfl | rfl | rfl | rfl <;> rfl
    have hst := srs6.store (row' := layRow ver rate sp g0 g1 g2 (.slice (some ⟨g3, 0, none⟩) 2 2)) rfl sh40 hone
    have HF : Hid ((Go.loadVar 52 ⟨wb.heap.size, 0, none⟩).run Tryd.prog (sput (w5.setCell ⟨z, 9, none⟩ (.slice (some ⟨g3, 0, none⟩) 2 2)) wb.heap.size (layRow ver rate sp g0 g1 g2 (.slice (some ⟨g3, 0, none⟩) 2 2))) = .ok (.agg (layRow ver rate sp g0 g1 g2 (.slice (some ⟨g3, 0, none⟩) 2 2)).toArray) (sput (w5.setCell ⟨z, 9, none⟩ (.slice (some ⟨g3, 0, none⟩) 2 2)) wb.heap.size (layRow ver rate sp g0 g1 g2 (.slice (some ⟨g3, 0, none⟩) 2 2))) ∧ Rw (sput (w5.setCell ⟨z, 9, none⟩ (.slice (some ⟨g3, 0, none⟩) 2 2)) wb.heap.size (layRow ver rate sp g0 g1 g2 (.slice (some ⟨g3, 0, none⟩) 2 2))) g3 (ints [0, 0]) ∧ w.heap.size ≤ g3 ∧ Below w.heap.size w (sput (w5.setCell ⟨z, 9, none⟩ (.slice (some ⟨g3, 0, none⟩) 2 2)) wb.heap.size (layRow ver rate sp g0 g1 g2 (.slice (some ⟨g3, 0, none⟩) 2 2)))) := by
      have b7 : But wb.heap.size (w5.setCell ⟨z, 9, none⟩ (.slice (some ⟨g3, 0, none⟩) 2 2)) (sput (w5.setCell ⟨z, 9, none⟩ (.slice (some ⟨g3, 0, none⟩) 2 2)) wb.heap.size (layRow ver rate sp g0 g1 g2 (.slice (some ⟨g3, 0, none⟩) 2 2))) := But.sput _ _ _
      have r6 := hr3.same b6.size (b6.block _ hr3.lt hne3)
      have q1 := HB.out
      have q2 := HB4.out
      have q3 := hb3.size
      have q4 := b6.size
      refine ⟨(srs6.put (row' := layRow ver rate sp g0 g1 g2 (.slice (some ⟨g3, 0, none⟩) 2 2)) rfl).loadVar sh40, r6.same b7.size (b7.block _ r6.lt hne4), by have := q2.1.size; omega, ?_⟩
      exact ((q2.1.trans (hb3.mono q2.1.size)).trans (b6.belowAt (by omega) (by have := q2.1.size; omega))).trans (b7.belowAt (by omega) (by have := q2.1.size; omega))
    generalize hsW : sput (w5.setCell ⟨z, 9, none⟩ (.slice (some ⟨g3, 0, none⟩) 2 2)) wb.heap.size (layRow ver rate sp g0 g1 g2 (.slice (some ⟨g3, 0, none⟩) 2 2)) = W at hst HF
    simp only [layRow, sl0] at hld hst
    clear hbs hg3 hr3 hb3 sz srs sz5 srs5 hne hne3 hne4 b6 sz6 srs6 hone hsW
    go_wp2_with (first | ((with_reducible refine load_run ?_ (.tmp 9) 52 ?_ ?_ hld ?_); exact rfl; exact rfl; exact rfl) | ((with_reducible refine store_run ?_ (.tmp 8) (.tmp 55) 52 ?_ ?_ ?_ hst ?_); exact rfl; exact rfl; exact rfl; exact rfl) | fail)
    exact bodyPost_ret (res_c Tryd.results59 rfl HF.out.1) rfl ⟨g0, g1, g2, g3, rfl, HF.out.2.2.1, HF.out.2.1, HF.out.2.2.2⟩
/-- A new revision of a span, without entries. -/
def newR (ver : Int) (sp : Kp) : Rv := ⟨ver, 0, sp.lo, sp.hi, sp.all, false, [], [], [], [0, 0]⟩
end Go.Proofs.YtibimnibmengpaaDoor
