/- BatchBounds's law: at any numbers it answers true. Condition: none but the numbers' kinds. -/
import Derived.Test.YthglldnhffkefaaBWalkE
import Derived.Laws.IdiomStrings
import Derived.Laws.MakeOwn
namespace Go.FreeT
open Go Go.RowKit Go.Free Go.Op
section
variable {P : Program} {effs : List Nat} {ops : Array Oper} {S : List Bool → (Nat → Value) → World → Prop} {i : Nat} (o0 : Oper) (ho : ops[i]? = some o0)
include ho
theorem d_make {T : TypeId} {x y : Operand} (hop : o0.op = .makeSlice T x y) (p : Nat) (hp : effs[p]? = some i) {vx vy : (Nat → Value) → Value} (h : ∀ β bs w, S bs β w → Due ops effs i bs → ∃ u w', (Instr.makeSlice T (vx β) (vy β)).run P w = .ok u w' ∧ S (bs.set p true) (upd β i u) w') : Does P effs ops S ⟨i, fun β => [vx β, vy β], fun β => β i, .eff⟩ := by
  refine ⟨fun β u => upd_same i u, p, hp, ?_⟩
  rintro o h1 β ρ h2 bs w hS hD
  rw [ho] at h1
  cases h1
  rw [hop] at h2
  simp [Op.operands] at h2
  obtain ⟨u, w', g1, g2⟩ := h β bs w hS hD
  exact ⟨u, w', by simp [execOp, hop, h2.1, h2.2, g1], g2⟩
theorem d_conv {A B : TypeId} {x : Operand} (hop : o0.op = .convert A B x) {vx v : (Nat → Value) → Value} (h : ∀ β bs w, S bs β w → Due ops effs i bs → (convert A B (vx β)).run P w = .ok (v β) w) : Does P effs ops S ⟨i, fun β => [vx β], v, .read⟩ := by
  rintro o h1 β ρ h2 bs w hS hD
  rw [ho] at h1
  cases h1
  rw [hop] at h2
  simp [Op.operands] at h2
  simp [execOp, hop, h2, h β bs w hS hD]
theorem d_build2 {T : TypeId} {x y : Operand} (hop : o0.op = .build T #[(0, x), (1, y)]) {vx vy v : (Nat → Value) → Value} (h : ∀ β w, (Instr.build T #[(0, vx β), (1, vy β)]).run P w = .ok (v β) w) : Does P effs ops S ⟨i, fun β => [vx β, vy β], v, .pure⟩ := by
  rintro o h1 β ρ h2 w
  rw [ho] at h1
  cases h1
  rw [hop] at h2
  simp [Op.operands] at h2
  simp [execOp, hop, h2.1, h2.2, h]
end
end Go.FreeT
namespace Go.Proofs.Ythglldnhffkefaa
open Go.RowKit Go.Op
set_option maxRecDepth 100000

def entK (i : Nat) : En := ⟨⟨#[UInt8.ofNat (1 + i / 200), UInt8.ofNat (1 + i % 200)]⟩, ⟨#[]⟩, false⟩
def entsK (n : Nat) : List En := (List.range n).map entK
theorem entsK_length (n : Nat) : (entsK n).length = n := by simp [entsK]
theorem entsK_succ (n : Nat) : entsK (n + 1) = entsK n ++ [entK n] := by simp [entsK, List.range_succ]
theorem entK_inj {i j : Nat} (hi : i < 4200) (hj : j < 4200) (h : (entK i).key = (entK j).key) : i = j := by
  simp only [entK, ByteArray.mk.injEq, Array.mk.injEq, List.cons.injEq, and_true] at h
  obtain ⟨h1, h2⟩ := h
  have h1 := congrArg UInt8.toNat h1
  have h2 := congrArg UInt8.toNat h2
  simp only [UInt8.toNat_ofNat'] at h1 h2
  omega
theorem entsK_unlike : ∀ n, n ≤ 4200 → Unlike (entsK n)
  | 0, _ => fun k => by simp [entsK, ofKey]
  | n + 1, h => by
    rw [entsK_succ]
    refine unlike_snoc (entsK_unlike n (by omega)) fun e he hk => ?_
    simp only [entsK, List.mem_map, List.mem_range] at he
    obtain ⟨i, hi, rfl⟩ := he
    have := entK_inj (by omega) (by omega) hk
    omega
theorem entsK_good {n : Nat} (h : n < 4200) : goodP (entsK n) ↔ 1 ≤ n ∧ n ≤ 4096 := by
  unfold goodP
  rw [entsK_length]
  refine ⟨fun h => ⟨h.1, h.2.1⟩, fun h2 => ⟨h2.1, h2.2, fun e he => ?_, entsK_unlike n (by omega)⟩⟩
  simp only [entsK, List.mem_map, List.mem_range] at he
  obtain ⟨i, _, rfl⟩ := he
  exact ok_iff.2 ⟨Nat.succ_pos 1, (by show 2 ≤ 1024; omega), (by show 0 ≤ 65536; omega), .inl rfl⟩
theorem conv_key (i : Nat) (hi : i < 4200) (w : World) : (convert 35 9 (.slice (some ⟨w.heap.size, 0, none⟩) 2 2)).run Try.prog (w.alloc (.cells #[.int .u8 (1 + (i : Int) / 200), .int .u8 (1 + (i : Int) % 200)] 5)) = .ok (.string (entK i).key) (w.alloc (.cells #[.int .u8 (1 + (i : Int) / 200), .int .u8 (1 + (i : Int) % 200)] 5)) := by
  have := run_convert_bytes_back (P := Try.prog) (w.alloc (.cells #[.int .u8 (1 + (i : Int) / 200), .int .u8 (1 + (i : Int) % 200)] 5)) 35 9 5 ⟨w.heap.size, 0, none⟩ 2 [UInt8.ofNat (1 + i / 200), UInt8.ofNat (1 + i % 200)] Try.underlying35 Try.underlying5 Try.underlying9 (fun j hj => by
    have ea : (⟨w.heap.size, 0, none⟩ : Addr).add j = ⟨w.heap.size, j, none⟩ := by unfold Addr.add; split <;> simp_all
    rw [ea]
    match j, hj with
    | 0, _ =>
      simp
      omega
    | 1, _ =>
      simp
      omega)
  exact this

def zeros (n : Nat) : ByteArray := ⟨(List.replicate n (0 : UInt8)).toArray⟩
theorem zeros_size (n : Nat) : (zeros n).size = n := by show (List.replicate n (0 : UInt8)).toArray.size = n; simp
def oneE (a b : Nat) : En := ⟨zeros a, zeros b, false⟩
theorem one_good {a b : Nat} : goodP [oneE a b] ↔ 1 ≤ a ∧ a ≤ 1024 ∧ b ≤ 65536 := by
  have hk := ok_iff (k := zeros a) (v := zeros b) (g := false)
  rw [zeros_size, zeros_size] at hk
  constructor
  · intro h
    have := hk.1 (h.2.2.1 (oneE a b) (by simp))
    omega
  · intro h
    refine ⟨by simp, by simp, fun e he => ?_, fun k => Nat.le_trans (List.length_filter_le _ _) (by simp)⟩
    rw [List.mem_singleton.1 he]
    exact hk.2 ⟨by omega, by omega, by omega, .inl rfl⟩
theorem info5 : (Try.prog.info? 5).map (fun i => (i.zero, i.size, i.bytes)) = some (some (.int .u8 0), 1, 1) := by kernel_rfl
/-- A block of bytes 0. -/
def ZB (w : World) (v : Value) (n : Nat) : Prop := ∃ g, v = .slice (some ⟨g, 0, none⟩) n n ∧ g < w.heap.size ∧ ∀ j, j < n → w.cell? ⟨g, j, none⟩ = some (.int .u8 0)
theorem ZB.below {w w' : World} {v : Value} {n : Nat} (h : ZB w v n) (hb : Below w.heap.size w w') : ZB w' v n := by
  obtain ⟨g, e, hg, hc⟩ := h
  exact ⟨g, e, Nat.lt_of_lt_of_le hg hb.size, fun j hj => by rw [hb.cell (p := ⟨g, j, none⟩) hg]; exact hc j hj⟩
theorem make_zb (n : Nat) (hn : n ≤ 100000) (w : World) : ∃ u w', (Instr.makeSlice 35 (.int .i64 n) (.int .i64 n)).run Try.prog w = .ok u w' ∧ ZB w' u n ∧ Below w.heap.size w w' := by
  have h5 := info5
  cases hi : Try.prog.info? 5 with
  | none => rw [hi] at h5; cases h5
  | some i =>
    rw [hi] at h5
    simp only [Option.map_some, Option.some.injEq, Prod.mk.injEq] at h5
    obtain ⟨h1, h2, h3⟩ := h5
    have := run_make (P := Try.prog) w 35 5 i (.int .u8 0) Try.underlying35 hi h1 .i64 .i64 n n (by omega) (by omega) (by rw [h3]; omega) (by omega)
    rw [h2] at this
    refine ⟨_, _, (by simpa [Value.cells] using this), ⟨w.heap.size, rfl, by simp, fun j hj => by simp [madeCells, hj, Nat.mod_one]⟩, (Below.refl _ _).alloc (Nat.le_refl _) _⟩
theorem conv_zb {w : World} {v : Value} {n : Nat} (h : ZB w v n) : (convert 35 9 v).run Try.prog w = .ok (.string (zeros n)) w := by
  obtain ⟨g, rfl, _, hc⟩ := h
  have := run_convert_bytes_back (P := Try.prog) w 35 9 5 ⟨g, 0, none⟩ n (List.replicate n (0 : UInt8)) Try.underlying35 Try.underlying5 Try.underlying9 (fun j hj => by
    simp only [List.length_replicate] at hj
    have : (⟨g, 0, none⟩ : Addr).add j = ⟨g, j, none⟩ := by unfold Addr.add; split <;> simp_all
    rw [this, hc j hj]
    simp)
  simpa [zeros] using this
theorem build_one (a b : Nat) (w : World) : (Instr.build 37 #[(0, .string (zeros a)), (1, .string (zeros b))]).run Try.prog w = .ok (oneE a b).v w := by
  unfold oneE En.v
  generalize zeros a = x
  generalize zeros b = y
  go_simp
/-- What is true while the one entry is made. -/
def OneS (wo : World) (a b : Nat) : List Bool → (Nat → Value) → World → Prop
  | [b1, b4, b7], β, w => Below wo.heap.size wo w ∧ (b1 = true → b7 = false → ZB w (β 1) a) ∧ (b4 = true → b7 = false → ZB w (β 4) b) ∧ (b7 = true → ∃ g, β 7 = .slice (some ⟨g, 0, none⟩) 1 1 ∧ Ents w (some ⟨g, 0, none⟩) [oneE a b])
  | _, _, _ => False
section
variable {wo w : World} {a b : Nat} {bs : List Bool} {β : Nat → Value}
theorem one_start (h : Below wo.heap.size wo w) : OneS wo a b [false, false, false] β w := ⟨h, fun h => (by cases h), fun h => (by cases h), fun h => (by cases h)⟩
theorem one_end (h : OneS wo a b [true, true, true] β w) : Below wo.heap.size wo w ∧ ∃ g, β 7 = .slice (some ⟨g, 0, none⟩) 1 1 ∧ Ents w (some ⟨g, 0, none⟩) [oneE a b] := ⟨h.1, h.2.2.2 rfl⟩
theorem one_e1 (h : OneS wo a b bs β w) (_h1 : bs[0]? = some false) (h7 : bs[2]? = some false) (ha : a ≤ 100000) : ∃ u w', (Instr.makeSlice 35 (.int .i64 (a : Int)) (.int .i64 (a : Int))).run Try.prog w = .ok u w' ∧ OneS wo a b (bs.set 0 true) (FreeT.upd β 1 u) w' := by
  match bs, h with
  | [b1, b4, b7], ⟨hb, _, q4, _⟩ =>
    simp only [List.getElem?_cons_succ, List.getElem?_cons_zero, Option.some.injEq] at h7
    subst h7
    obtain ⟨u, w', hr, hz, hbb⟩ := make_zb a ha w
    exact ⟨u, w', hr, hb.trans (hbb.mono hb.size), fun _ _ => hz, fun h1 h2 => (q4 h1 h2).below hbb, fun h => (by cases h)⟩
theorem one_e4 (h : OneS wo a b bs β w) (_h4 : bs[1]? = some false) (h7 : bs[2]? = some false) (hb9 : b ≤ 100000) : ∃ u w', (Instr.makeSlice 35 (.int .i64 (b : Int)) (.int .i64 (b : Int))).run Try.prog w = .ok u w' ∧ OneS wo a b (bs.set 1 true) (FreeT.upd β 4 u) w' := by
  match bs, h with
  | [b1, b4, b7], ⟨hb, q1, _, _⟩ =>
    simp only [List.getElem?_cons_succ, List.getElem?_cons_zero, Option.some.injEq] at h7
    subst h7
    obtain ⟨u, w', hr, hz, hbb⟩ := make_zb b hb9 w
    exact ⟨u, w', hr, hb.trans (hbb.mono hb.size), fun h1 h2 => (q1 h1 h2).below hbb, fun _ _ => hz, fun h => (by cases h)⟩
theorem one_c1 (h : OneS wo a b bs β w) (h1 : bs[0]? = some true) (h7 : bs[2]? = some false := by exact ((by assumption : FreeT.Due _ _ _ _) 2 7 rfl).2 (.inl (by kernel_rfl))) : (convert 35 9 (β 1)).run Try.prog w = .ok (.string (zeros a)) w := by
  match bs, h with
  | [b1, b4, b7], ⟨_, q1, _, _⟩ =>
    simp only [List.getElem?_cons_succ, List.getElem?_cons_zero, Option.some.injEq] at h1 h7
    exact conv_zb (q1 h1 h7)
theorem one_c4 (h : OneS wo a b bs β w) (h4 : bs[1]? = some true) (h7 : bs[2]? = some false := by exact ((by assumption : FreeT.Due _ _ _ _) 2 7 rfl).2 (.inl (by kernel_rfl))) : (convert 35 9 (β 4)).run Try.prog w = .ok (.string (zeros b)) w := by
  match bs, h with
  | [b1, b4, b7], ⟨_, _, q4, _⟩ =>
    simp only [List.getElem?_cons_succ, List.getElem?_cons_zero, Option.some.injEq] at h4 h7
    exact conv_zb (q4 h4 h7)
theorem one_e7 (h : OneS wo a b bs β w) (_h7 : bs[2]? = some false) : ∃ u w', (Instr.buildSlice 25 1 #[(0, (oneE a b).v)]).run Try.prog w = .ok u w' ∧ OneS wo a b (bs.set 2 true) (FreeT.upd β 7 u) w' := by
  match bs, h with
  | [b1, b4, b7], ⟨hb, _, _, _⟩ =>
    exact ⟨_, _, run_row1 (.inl ⟨rfl, rfl⟩) (oneE a b) w, hb.alloc hb.size _, fun _ h => (by cases h), fun _ h => (by cases h), fun _ => ⟨w.heap.size, rfl, ents_row1 w (oneE a b) 37⟩⟩
end

set_option maxHeartbeats 4000000 in
theorem bounds_any (n k v : Nat) (w : World) (hn : n < 65536) (hk : k < 4294967296) (hv : v < 4294967296) :
    Calls Try.prog 4 #[.int .u16 (n : Int), .int .u32 (k : Int), .int .u32 (v : Int)] w fun e w' => e = .returned (.bool true) ∧ Below w.heap.size w w' := by
  obtain ⟨N, hN⟩ : ∃ N, N = n % 4200 := ⟨_, rfl⟩
  have eN : (n : Int) % 4200 = (N : Int) := by omega
  have hN2 : N < 4200 := by omega
  obtain ⟨a, ha⟩ : ∃ a, a = k % 1100 := ⟨_, rfl⟩
  have ea : (k : Int) % 1100 = (a : Int) := by omega
  have ha9 : a ≤ 100000 := by omega
  obtain ⟨b, hb⟩ : ∃ b, b = 65500 + v % 80 := ⟨_, rfl⟩
  have eb : 65500 + (v : Int) % 80 = (b : Int) := by omega
  have hb9 : b ≤ 100000 := by omega
  have haw := awake_any
  have HG := Lib.hid (entsK_good hN2)
  clear hN ha hb
  go_enter Try.func4, Try.ntmps4
  go_wp2_with fail
  refine (haw _).mono ?_
  rintro e w1 ⟨rfl, b1⟩
  go_wp2
  go_loopw [7, 8] (fun ov iv wr => ∃ i : Nat, iv = .int .i64 (i : Int) ∧ i ≤ N ∧ Hid (OwnE 37 wr w.heap.size ov (entsK i)) ∧ Hid (Below w.heap.size w wr)) (fun _ iv _ => N - (intOf iv).toNat)
  case atStart => exact ⟨0, rfl, by omega, Lib.hid (OwnE.nil _ _ _), Lib.hid b1⟩
  case round =>
    obtain ⟨i, rfl, hiN, HO, HB⟩ := hrel
    clear b1
    by_cases h1 : i < N
    · have i1 : (i : Int) < (N : Int) := by omega
      have hcv := conv_key i (by omega) wr
      have HK : Hid (entK i = ⟨(entK i).key, ⟨#[]⟩, false⟩) := Lib.hid rfl
      have HS := Lib.hid (entsK_succ i)
      generalize hkk : (entK i).key = key at hcv HK
      have hown := HO.out
      have hlen : (entsK i).length ≤ 4200 := by rw [entsK_length]; omega
      generalize entsK i = acc at hown hlen HS HO
      have HB1 := HB.out
      have sz := HB1.size
      clear hkk
      have d1 := hown.alloc (.cells #[.int .u8 (1 + (i : Int) / 200), .int .u8 (1 + (i : Int) % 200)] 5)
      go_wp2_with (at_builtin; refine wpList_append_ents rfl 25 37 (.inl ⟨rfl, rfl⟩) (.tmp 22) (.tmp 34) rfl w.heap.size u7 acc [⟨key, ⟨#[]⟩, false⟩] rfl (d1.alloc _) ⟨wr.heap.size + 1, 0, none⟩ 1 rfl (by
        have := cells_new (wr.alloc (.cells #[.int .u8 (1 + (i : Int) / 200), .int .u8 (1 + (i : Int) % 200)] 5)) ⟨key, ⟨#[]⟩, false⟩ 37
        simpa using this) (by simp; omega) (by simp; omega) ?_; intro v' w3 hown' hgrow _)
      have HO3 : Hid (OwnE 37 w3 w.heap.size v' (entsK (i + 1))) := Lib.hid (by rw [HS.out, HK.out]; exact hown')
      have HB3 := Lib.hid (below_grown ((HB1.alloc sz _).alloc (by simp; omega) _) (d1.alloc _) hgrow (by simp; omega))
      clear hown hown' hgrow d1 hcv HB1
      go_wp2
      go_roundw
      case rel => exact ⟨i + 1, by go_num, by omega, HO3, HB3⟩
      case measure => simp [intOf]; omega
    · obtain rfl : i = N := by omega
      have i1 : ¬ (i : Int) < (i : Int) := by omega
      have hown := HO.out
      obtain ⟨oa, oc, rfl, hcut, _, _⟩ := hown.sl
      rw [entsK_length] at *
      have hch := check_any oa (entsK i) oc wr (by rw [entsK_length]; omega) hcut.e hcut.none
      rw [entsK_length] at hch
      obtain ⟨V, hV⟩ : ∃ V, V = errL (entsK i) := ⟨_, rfl⟩
      rw [← hV] at hch
      have HV := Lib.hid hV
      clear hown hcut hV HO
      go_wp2_with fail
      refine hch.mono ?_
      rintro e w5 ⟨rfl, b5⟩
      have HB5 := Lib.hid (HB.out.trans (b5.mono HB.out.size))
      clear b5 hch HB
      obtain ⟨wr, hwr⟩ : ∃ wr, wr = w5 := ⟨_, rfl⟩
      subst hwr
      go_wp2_with fail
      refine FreeT.region_puts (S := OneS wr a b) (effs := [1, 4, 7])
        (tab := [⟨1, fun _ => [.int .i64 (a : Int), .int .i64 (a : Int)], fun β => (β 1), .eff⟩,
          ⟨2, fun β => [(β 1)], fun _ => .string (zeros a), .read⟩,
          ⟨4, fun _ => [.int .i64 (b : Int), .int .i64 (b : Int)], fun β => (β 4), .eff⟩,
          ⟨5, fun β => [(β 4)], fun _ => .string (zeros b), .read⟩,
          ⟨6, fun _ => [.string (zeros a), .string (zeros b)], fun _ => (oneE a b).v, .pure⟩,
          ⟨7, fun _ => [(oneE a b).v], fun β => (β 7), .eff⟩])
        (vs := [([], fun _ => .int .i64 (a : Int)), ([1], fun l => l.headD undef), ([], fun _ => .string (zeros a)), ([], fun _ => .int .i64 (b : Int)), ([4], fun l => l.headD undef), ([], fun _ => .string (zeros b)), ([], fun _ => (oneE a b).v), ([7], fun l => l.headD undef), ([7], fun l => l.headD undef)])
        (by kernel_rfl) ⟨by kernel_rfl, ⟨FreeT.d_make _ rfl rfl 0 rfl (fun β bs w h hd => one_e1 h ((hd 0 1 rfl).2 (.inr rfl)) ((hd 2 7 rfl).2 (.inl (by kernel_rfl))) ha9),
          FreeT.d_conv _ rfl rfl (fun β bs w h hd => one_c1 h ((hd 0 1 rfl).1 (by kernel_rfl))),
          FreeT.d_make _ rfl rfl 1 rfl (fun β bs w h hd => one_e4 h ((hd 1 4 rfl).2 (.inr rfl)) ((hd 2 7 rfl).2 (.inl (by kernel_rfl))) hb9),
          FreeT.d_conv _ rfl rfl (fun β bs w h hd => one_c4 h ((hd 1 4 rfl).1 (by kernel_rfl))),
          FreeT.d_build2 _ rfl rfl (fun _ w => build_one _ _ w),
          FreeT.d_row1 _ rfl rfl 2 rfl (fun β bs w h hd => one_e7 h ((hd 2 7 rfl).2 (.inr rfl))),
          trivial⟩,
          fun β => by kernel_rfl, fun β => by kernel_rfl, by kernel_rfl, fun β => by kernel_rfl, by kernel_rfl⟩ (one_start ((Below.refl _ _).drew)) (fun β => Free.from_ 46 [.int .i64 (a : Int), (β 1), .string (zeros a), .int .i64 (b : Int), (β 4), .string (zeros b), (oneE a b).v, (β 7)] ++ [(12, (β 7))]) (fun β => by kernel_rfl) ?_
      intro β w4 h4
      rw [FreeX.puts_append, Free.puts_from _ _ _ (Nat.le_of_ble_eq_true rfl)]
      simp only [List.take_succ_cons, List.take_zero, List.drop_succ_cons, List.drop_zero, List.cons_append, List.nil_append, List.length_cons, List.length_nil, Nat.reduceAdd]
      unfold Free.puts
      simp only [List.foldl_cons, List.foldl_nil]
      obtain ⟨b6, g, e6, hE6⟩ := one_end h4
      have hch2 := check_any (some ⟨g, 0, none⟩) [oneE a b] 1 w4 (by simp) hE6 (fun h => by cases h)
      simp only [List.length_singleton] at hch2
      obtain ⟨U, hU⟩ : ∃ U, U = errL [oneE a b] := ⟨_, rfl⟩
      rw [← hU] at hch2
      have HU := Lib.hid hU
      have HB6 := Lib.hid (HB5.out.trans (b6.mono HB5.out.size))
      rw [e6]
      clear h4 b6 hE6 hU e6
      have hV2 : (V = 0 ∧ 1 ≤ i ∧ i ≤ 4096) ∨ (V = 1 ∧ ¬ (1 ≤ i ∧ i ≤ 4096)) := by
        rw [HV.out]
        by_cases hg : goodP (entsK i)
        · exact .inl ⟨err_yes hg, HG.out.1 hg⟩
        · exact .inr ⟨err_no hg, fun h => hg (HG.out.2 h)⟩
      have hU2 : (U = 0 ∧ 1 ≤ a ∧ a ≤ 1024 ∧ b ≤ 65536) ∨ (U = 1 ∧ ¬ (1 ≤ a ∧ a ≤ 1024 ∧ b ≤ 65536)) := by
        rw [HU.out]
        by_cases hg : goodP [oneE a b]
        · exact .inl ⟨err_yes hg, one_good.1 hg⟩
        · exact .inr ⟨err_no hg, fun h => hg (one_good.2 h)⟩
      have x1 : (1 : Int) ≤ (i : Int) ∨ ¬ (1 : Int) ≤ (i : Int) := Classical.em _
      have x2 : (i : Int) ≤ 4096 ∨ ¬ (i : Int) ≤ 4096 := Classical.em _
      have x3 : (1 : Int) ≤ (a : Int) ∨ ¬ (1 : Int) ≤ (a : Int) := Classical.em _
      have x4 : (a : Int) ≤ 1024 ∨ ¬ (a : Int) ≤ 1024 := Classical.em _
      have x5 : (b : Int) ≤ 65536 ∨ ¬ (b : Int) ≤ 65536 := Classical.em _
      have HP := Lib.hid (And.intro hV2 hU2)
      clear hV2 hU2
      rcases x1 with x1 | x1 <;> rcases x2 with x2 | x2 <;> rcases x3 with x3 | x3 <;> rcases x4 with x4 | x4 <;> rcases x5 with x5 | x5
      all_goals
        obtain ⟨⟨rfl, g1⟩ | ⟨rfl, g1⟩, ⟨rfl, g2⟩ | ⟨rfl, g2⟩⟩ := HP.out
        all_goals first | (exfalso; omega) | skip
        all_goals
          clear g1 g2
          go_wp2_with fail
          refine hch2.mono ?_
          rintro e w7 ⟨rfl, b7⟩
          have HB7 := Lib.hid (HB6.out.trans (b7.mono HB6.out.size))
          clear b7
          go_wp2
          go_ret
          first | exact ⟨rfl, HB7.out⟩ | exact ⟨ret_any (by simp; omega), HB7.out⟩ | exact ⟨ret_any (by simp [x5]), HB7.out⟩
theorem nat_u32 {a : Int} (h : (Lit.int .u32 a).wf = true) : ∃ n : Nat, a = (n : Int) ∧ n < 4294967296 := by
  simp [Lit.wf, IntKind.min, IntKind.max, IntKind.signed, IntKind.bits] at h
  exact ⟨a.toNat, by omega, by omega⟩
theorem nat_u16 {a : Int} (h : (Lit.int .u16 a).wf = true) : ∃ n : Nat, a = (n : Int) ∧ n < 65536 := by
  simp [Lit.wf, IntKind.min, IntKind.max, IntKind.signed, IntKind.bits] at h
  exact ⟨a.toNat, by omega, by omega⟩
theorem boundsLaw (a b c : Int) (w : World) (ha : (Lit.int .u16 a).wf = true) (hb : (Lit.int .u32 b).wf = true) (hc : (Lit.int .u32 c).wf = true) : Calls Try.prog 4 #[.int .u16 a, .int .u32 b, .int .u32 c] w fun e w' => e = .returned (.bool true) ∧ Below w.heap.size w w' := by
  obtain ⟨n, rfl, hn⟩ := nat_u16 ha
  obtain ⟨k, rfl, hk⟩ := nat_u32 hb
  obtain ⟨v, rfl, hv⟩ := nat_u32 hc
  exact bounds_any n k v w hn hk hv
end Go.Proofs.Ythglldnhffkefaa
