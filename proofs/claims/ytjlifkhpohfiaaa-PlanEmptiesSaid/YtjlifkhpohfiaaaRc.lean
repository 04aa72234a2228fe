/- What the law's entries answers. Condition: at most 100 nodes. -/
import Derived.Test.YtjlifkhpohfiaaaRb
namespace Go.Proofs.Ytjlifkhpohfiaaa
open Go.RowKit Go.Op
set_option maxRecDepth 100000

theorem liveL_succ (i n : Nat) : liveL' i (n + 1) = liveL' i n ++ [liveE i n] := by simp [liveL', List.range_succ]
theorem one_size (b : Nat) : (one b).size = 1 := rfl
theorem two_size (b c : Nat) : (two b c).size = 2 := rfl
theorem head_size (i : Nat) : (headB i).size = 1 := by unfold headB; split <;> rfl
theorem liveL_length (i n : Nat) : (liveL' i n).length = n := by simp [liveL']
set_option maxHeartbeats 2000000 in
theorem lentries_any (i : Nat) (hi : i ≤ 100) (x : Spc) (hx : x.Ok) (w : World) : Calls Try.prog 31 #[.int .i64 (i : Int), x.v] w fun e w' => ∃ v, e = .returned v ∧ w'.ownsRow (w.heap.size + 1) 77 3 v (entL i x).length (enRow (entL i x)) ∧ Below w.heap.size w w' := by
  obtain ⟨wa, hwa⟩ : ∃ W, W = w.alloc (.cells x.cells.toArray 66) := ⟨_, rfl⟩
  have hba : Below w.heap.size w wa := by rw [hwa]; exact (Below.refl _ _).alloc (Nat.le_refl _) _
  have hsz : wa.heap.size = w.heap.size + 1 := by rw [hwa]; simp
  have sx : SVar wa w.heap.size x.cells := by rw [hwa]; exact snew _ _ _
  have c3 := sx.cell (i := 3) rfl
  have c4 := sx.cell (i := 4) rfl
  obtain ⟨m, hm⟩ : ∃ m, m = x.live % 70 := ⟨_, rfl⟩
  have hm2 : (x.live : Int) % 70 = (m : Int) := by rw [hm]; omega
  have hm3 : m < 70 := by rw [hm]; omega
  have hl256 : (x.live : Int) < 256 := by have := hx.2.2.2; omega
  have HM := Lib.hid hm2
  have HMm := Lib.hid hm
  have HB := Lib.hid (⟨hba, hsz⟩ : _ ∧ _)
  have HW := Lib.hid hwa.symm
  have hnm := name_any i hi wa
  unfold Spc.v
  simp only [Spc.cells] at HW
  clear hwa hba sx hm hm2 hx hsz
  obtain ⟨H, hH⟩ : ∃ H, H = headB i := ⟨_, rfl⟩
  have hHs : H.size = 1 := by rw [hH]; exact head_size i
  have HH := Lib.hid hH
  clear hH
  go_enter Try.func31, Try.ntmps31
  go_wp2_with (first | rw [HW.out] | fail)
  refine hnm.mono ?_
  rintro e w1 ⟨rfl, hb1⟩
  have d3 : w1.cell? ⟨w.heap.size, 3, none⟩ = some (.int .u8 (x.live : Int)) := by rw [hb1.cell (p := ⟨w.heap.size, 3, none⟩) (by rw [HB.out.2]; exact Nat.lt_succ_self _)]; exact c3
  have d4 : w1.cell? ⟨w.heap.size, 4, none⟩ = some (.bool x.tomb) := by rw [hb1.cell (p := ⟨w.heap.size, 4, none⟩) (by rw [HB.out.2]; exact Nat.lt_succ_self _)]; exact c4
  have HB1 : Hid (Below w.heap.size w w1 ∧ w.heap.size + 1 ≤ w1.heap.size) := ⟨HB.out.1.trans (hb1.mono HB.out.1.size), by have := hb1.size; rw [HB.out.2] at this; exact this⟩
  clear hnm hb1 c3 c4 HW
  by_cases h0 : i = 0
  · have hst : Value.string ⟨#[48]⟩ = .string H := by rw [HH.out, h0]; rfl
    have h00 : (i : Int) = 0 := by omega
    have HST := Lib.hid hst
    clear hst h0
    go_wp2_with fail
    rw [HST.out]
    go_loopw [5, 7] (fun ov kv wr => ∃ (k : Nat) (oa : Option Addr) (oc : Nat), kv = .int .i64 (k : Int) ∧ ov = .slice oa k oc ∧ k ≤ m ∧ Hid (Below (w.heap.size + 1) w1 wr ∧ wr.ownsRow (w.heap.size + 1) 77 3 (.slice oa k oc) k (enRow (liveL' i k)))) (fun _ kv _ => m - (intOf kv).toNat)
    case atStart => exact ⟨0, none, 0, rfl, rfl, Nat.zero_le _, Lib.hid ⟨Below.refl _ _, World.ownsRow_nil _ _ _ _⟩⟩
    case round =>
      obtain ⟨k, oa, oc, rfl, rfl, hk, HX⟩ := hrel
      have e3 : wr.cell? ⟨w.heap.size, 3, none⟩ = some (.int .u8 (x.live : Int)) := by rw [HX.out.1.cell (p := ⟨w.heap.size, 3, none⟩) (Nat.lt_succ_self _)]; exact d3
      have e4 : wr.cell? ⟨w.heap.size, 4, none⟩ = some (.bool x.tomb) := by rw [HX.out.1.cell (p := ⟨w.heap.size, 4, none⟩) (Nat.lt_succ_self _)]; exact d4
      have hsr := HX.out.1.size
      have hB0 : Hid (Below w.heap.size w wr ∧ w.heap.size + 1 ≤ wr.heap.size) := ⟨HB1.out.1.trans (HX.out.1.mono (Nat.le_succ _)), by have := HB1.out.2; omega⟩
      by_cases hlt : k < m
      · have hlt2 : (k : Int) < (m : Int) := by omega
        have hcv := str_of wr [UInt8.ofNat (48 + k / 10), UInt8.ofNat (48 + k % 10)] [.int .u8 (48 + (k : Int) / 10), .int .u8 (48 + (k : Int) % 10)] (by simp only [List.map_cons, List.map_nil, ofNat_toNat (show 48 + k / 10 < 256 by omega), ofNat_toNat (show 48 + k % 10 < 256 by omega)]; congr 3 <;> omega)
        simp only [List.length_cons, List.length_nil, Nat.zero_add, Nat.reduceAdd] at hcv
        obtain ⟨T, hT⟩ : ∃ T, T = two (48 + k / 10) (48 + k % 10) := ⟨_, rfl⟩
        have hTs : T.size = 2 := by rw [hT]; rfl
        rw [show (⟨[UInt8.ofNat (48 + k / 10), UInt8.ofNat (48 + k % 10)].toArray⟩ : ByteArray) = T from hT.symm] at hcv
        obtain ⟨S, hS⟩ : ∃ S, S = H ++ T := ⟨_, rfl⟩
        obtain ⟨wb, hwb⟩ : ∃ W, W = (wr.alloc (.cells #[.int .u8 (48 + (k : Int) / 10), .int .u8 (48 + (k : Int) % 10)] 5)).alloc (.cells #[.string S, .string ⟨#[118]⟩, .bool false] 77) := ⟨_, rfl⟩
        have hbb : Below wr.heap.size wr wb := by rw [hwb]; exact ((Below.refl _ _).alloc (Nat.le_refl _) _).alloc (by simp) _
        have hwz : wb.heap.size = wr.heap.size + 2 := by rw [hwb]; simp
        have hsn : wb.rangeAt (wr.heap.size + 1) 0 (liveE i k).cells := by
          have := (snew (wr.alloc (.cells #[.int .u8 (48 + (k : Int) / 10), .int .u8 (48 + (k : Int) % 10)] 5)) [.string S, .string ⟨#[118]⟩, .bool false] 77).at_
          rw [show (wr.alloc (.cells #[.int .u8 (48 + (k : Int) / 10), .int .u8 (48 + (k : Int) % 10)] 5)).heap.size = wr.heap.size + 1 by simp] at this
          rw [hwb]
          rw [hS, hT, HH.out] at this ⊢
          exact this
        have hap := fun ty => sk72.app (own_later HX.out.2 hbb) (by rw [hwz]; have := hB0.out.2; omega) (wr.heap.size + 1) (liveE i k).cells hsn rfl (by intro u hu; simp [En.cells] at hu; rcases hu with rfl | rfl | rfl <;> rfl) (by omega) ty
        have HAp : Hid (∀ ty, ∃ v' w5, (Builtin.append_ #[72, 72] ty #[.slice oa k oc, .slice (some ⟨wr.heap.size + 1, 0, none⟩) 1 1]).run Try.prog wb = .ok v' w5 ∧ ∃ a' cap', v' = .slice a' (k + 1) cap' ∧ Hid (Below (w.heap.size + 1) w1 w5 ∧ w5.ownsRow (w.heap.size + 1) 77 3 (.slice a' (k + 1) cap') (k + 1) (enRow (liveL' i (k + 1))))) := Lib.hid fun ty => by
          obtain ⟨a', cap', w5, h1, h2, h3, h4, -⟩ := hap ty
          refine ⟨_, w5, h1, a', cap', rfl, (HX.out.1.trans (hbb.mono hB0.out.2)).trans h4, ?_⟩
          rw [liveL_succ, enRow_append, show enRow [liveE i k] = (liveE i k).cells by simp [enRow]]
          exact h2
        have HWB := Lib.hid hwb.symm
        have HS := Lib.hid hS.symm
        clear hbb hwz hsn hap HX hwb hT hS
        go_wp2_with (first | rw [HM.out] | rw [HS.out] | rw [HWB.out] | (at_builtin; refine append_run2 rfl (.tmp 20) (.tmp 34) 72 rfl rfl rfl HAp.out ?_; rintro v' w5 ⟨a', cap', rfl, HX2⟩; clear HAp) | fail)
        go_roundw
        case rel => exact ⟨k + 1, a', cap', by simp, rfl, by omega, HX2⟩
        case measure => simp [intOf]; omega
      · have hlt2 : ¬ (k : Int) < (m : Int) := by omega
        obtain rfl : k = m := by omega
        clear hlt
        cases htb : x.tomb with
        | false =>
          have HE : Hid (wr.ownsRow (w.heap.size + 1) 77 3 (.slice oa k oc) (entL i x).length (enRow (entL i x))) := Lib.hid (by
            have e : entL i x = liveL' i k := by rw [HMm.out, entL, htb]; simp
            rw [e, liveL_length]
            exact HX.out.2)
          rw [htb] at e4
          clear HX htb d3 d4
          go_wp2_with (first | rw [HM.out] | fail)
          go_ret
          exact ⟨_, rfl, HE.out, hB0.out.1⟩
        | true =>
          rw [htb] at e4
          obtain ⟨S, hS⟩ : ∃ S, S = H ++ one 120 := ⟨_, rfl⟩
          have hS2 : H ++ (⟨#[120]⟩ : ByteArray) = S := hS.symm
          obtain ⟨wb, hwb⟩ : ∃ W, W = wr.alloc (.cells #[.string S, .string ⟨#[]⟩, .bool true] 77) := ⟨_, rfl⟩
          have hbb : Below wr.heap.size wr wb := by rw [hwb]; exact (Below.refl _ _).alloc (Nat.le_refl _) _
          have hsn : wb.rangeAt wr.heap.size 0 (tombE i).cells := by
            have := (snew wr [.string S, .string ⟨#[]⟩, .bool true] 77).at_
            rw [hwb]
            rw [hS, HH.out] at this ⊢
            exact this
          have hap := fun ty => sk72.app (own_later HX.out.2 hbb) (by have := hbb.size; have := hB0.out.2; omega) wr.heap.size (tombE i).cells hsn rfl (by intro u hu; simp [En.cells] at hu; rcases hu with rfl | rfl | rfl <;> rfl) (by omega) ty
          have HAp : Hid (∀ ty, ∃ v' w5, (Builtin.append_ #[72, 72] ty #[.slice oa k oc, .slice (some ⟨wr.heap.size, 0, none⟩) 1 1]).run Try.prog wb = .ok v' w5 ∧ Hid (w5.ownsRow (w.heap.size + 1) 77 3 v' (entL i x).length (enRow (entL i x)) ∧ Below w.heap.size w w5)) := Lib.hid fun ty => by
            obtain ⟨a', cap', w5, h1, h2, h3, h4, -⟩ := hap ty
            refine ⟨_, w5, h1, ?_, (hB0.out.1.trans (hbb.mono (by have := hB0.out.2; omega))).trans (h4.mono (Nat.le_succ _))⟩
            have e : entL i x = liveL' i k ++ [tombE i] := by rw [HMm.out, entL, htb]; simp
            rw [e, List.length_append, liveL_length, enRow_append, show enRow [tombE i] = (tombE i).cells by simp [enRow]]
            exact h2
          have HWB := Lib.hid hwb.symm
          have HS := Lib.hid hS2
          clear hbb hsn hap HX hwb hS hS2 htb d3 d4
          go_wp2_with (first | rw [HM.out] | rw [HS.out] | rw [HWB.out] | (at_builtin; refine append_run2 rfl (.tmp 38) (.tmp 42) 72 rfl rfl rfl HAp.out ?_; rintro v' w5 HX2; clear HAp) | fail)
          go_ret
          exact ⟨_, rfl, HX2.out⟩
  · have hst : nameB i = H := by rw [HH.out]; simp [nameB, headB, h0]
    have h00 : ((i : Int) == 0) = false := by rw [beq_eq_false_iff_ne]; omega
    rw [hst]
    clear hst h0
    go_wp2_with fail
    go_loopw [5, 7] (fun ov kv wr => ∃ (k : Nat) (oa : Option Addr) (oc : Nat), kv = .int .i64 (k : Int) ∧ ov = .slice oa k oc ∧ k ≤ m ∧ Hid (Below (w.heap.size + 1) w1 wr ∧ wr.ownsRow (w.heap.size + 1) 77 3 (.slice oa k oc) k (enRow (liveL' i k)))) (fun _ kv _ => m - (intOf kv).toNat)
    case atStart => exact ⟨0, none, 0, rfl, rfl, Nat.zero_le _, Lib.hid ⟨Below.refl _ _, World.ownsRow_nil _ _ _ _⟩⟩
    case round =>
      obtain ⟨k, oa, oc, rfl, rfl, hk, HX⟩ := hrel
      have e3 : wr.cell? ⟨w.heap.size, 3, none⟩ = some (.int .u8 (x.live : Int)) := by rw [HX.out.1.cell (p := ⟨w.heap.size, 3, none⟩) (Nat.lt_succ_self _)]; exact d3
      have e4 : wr.cell? ⟨w.heap.size, 4, none⟩ = some (.bool x.tomb) := by rw [HX.out.1.cell (p := ⟨w.heap.size, 4, none⟩) (Nat.lt_succ_self _)]; exact d4
      have hsr := HX.out.1.size
      have hB0 : Hid (Below w.heap.size w wr ∧ w.heap.size + 1 ≤ wr.heap.size) := ⟨HB1.out.1.trans (HX.out.1.mono (Nat.le_succ _)), by have := HB1.out.2; omega⟩
      by_cases hlt : k < m
      · have hlt2 : (k : Int) < (m : Int) := by omega
        have hcv := str_of wr [UInt8.ofNat (48 + k / 10), UInt8.ofNat (48 + k % 10)] [.int .u8 (48 + (k : Int) / 10), .int .u8 (48 + (k : Int) % 10)] (by simp only [List.map_cons, List.map_nil, ofNat_toNat (show 48 + k / 10 < 256 by omega), ofNat_toNat (show 48 + k % 10 < 256 by omega)]; congr 3 <;> omega)
        simp only [List.length_cons, List.length_nil, Nat.zero_add, Nat.reduceAdd] at hcv
        obtain ⟨T, hT⟩ : ∃ T, T = two (48 + k / 10) (48 + k % 10) := ⟨_, rfl⟩
        have hTs : T.size = 2 := by rw [hT]; rfl
        rw [show (⟨[UInt8.ofNat (48 + k / 10), UInt8.ofNat (48 + k % 10)].toArray⟩ : ByteArray) = T from hT.symm] at hcv
        obtain ⟨S, hS⟩ : ∃ S, S = H ++ T := ⟨_, rfl⟩
        obtain ⟨wb, hwb⟩ : ∃ W, W = (wr.alloc (.cells #[.int .u8 (48 + (k : Int) / 10), .int .u8 (48 + (k : Int) % 10)] 5)).alloc (.cells #[.string S, .string ⟨#[118]⟩, .bool false] 77) := ⟨_, rfl⟩
        have hbb : Below wr.heap.size wr wb := by rw [hwb]; exact ((Below.refl _ _).alloc (Nat.le_refl _) _).alloc (by simp) _
        have hwz : wb.heap.size = wr.heap.size + 2 := by rw [hwb]; simp
        have hsn : wb.rangeAt (wr.heap.size + 1) 0 (liveE i k).cells := by
          have := (snew (wr.alloc (.cells #[.int .u8 (48 + (k : Int) / 10), .int .u8 (48 + (k : Int) % 10)] 5)) [.string S, .string ⟨#[118]⟩, .bool false] 77).at_
          rw [show (wr.alloc (.cells #[.int .u8 (48 + (k : Int) / 10), .int .u8 (48 + (k : Int) % 10)] 5)).heap.size = wr.heap.size + 1 by simp] at this
          rw [hwb]
          rw [hS, hT, HH.out] at this ⊢
          exact this
        have hap := fun ty => sk72.app (own_later HX.out.2 hbb) (by rw [hwz]; have := hB0.out.2; omega) (wr.heap.size + 1) (liveE i k).cells hsn rfl (by intro u hu; simp [En.cells] at hu; rcases hu with rfl | rfl | rfl <;> rfl) (by omega) ty
        have HAp : Hid (∀ ty, ∃ v' w5, (Builtin.append_ #[72, 72] ty #[.slice oa k oc, .slice (some ⟨wr.heap.size + 1, 0, none⟩) 1 1]).run Try.prog wb = .ok v' w5 ∧ ∃ a' cap', v' = .slice a' (k + 1) cap' ∧ Hid (Below (w.heap.size + 1) w1 w5 ∧ w5.ownsRow (w.heap.size + 1) 77 3 (.slice a' (k + 1) cap') (k + 1) (enRow (liveL' i (k + 1))))) := Lib.hid fun ty => by
          obtain ⟨a', cap', w5, h1, h2, h3, h4, -⟩ := hap ty
          refine ⟨_, w5, h1, a', cap', rfl, (HX.out.1.trans (hbb.mono hB0.out.2)).trans h4, ?_⟩
          rw [liveL_succ, enRow_append, show enRow [liveE i k] = (liveE i k).cells by simp [enRow]]
          exact h2
        have HWB := Lib.hid hwb.symm
        have HS := Lib.hid hS.symm
        clear hbb hwz hsn hap HX hwb hT hS
        go_wp2_with (first | rw [HM.out] | rw [HS.out] | rw [HWB.out] | (at_builtin; refine append_run2 rfl (.tmp 20) (.tmp 34) 72 rfl rfl rfl HAp.out ?_; rintro v' w5 ⟨a', cap', rfl, HX2⟩; clear HAp) | fail)
        go_roundw
        case rel => exact ⟨k + 1, a', cap', by simp, rfl, by omega, HX2⟩
        case measure => simp [intOf]; omega
      · have hlt2 : ¬ (k : Int) < (m : Int) := by omega
        obtain rfl : k = m := by omega
        clear hlt
        cases htb : x.tomb with
        | false =>
          have HE : Hid (wr.ownsRow (w.heap.size + 1) 77 3 (.slice oa k oc) (entL i x).length (enRow (entL i x))) := Lib.hid (by
            have e : entL i x = liveL' i k := by rw [HMm.out, entL, htb]; simp
            rw [e, liveL_length]
            exact HX.out.2)
          rw [htb] at e4
          clear HX htb d3 d4
          go_wp2_with (first | rw [HM.out] | fail)
          go_ret
          exact ⟨_, rfl, HE.out, hB0.out.1⟩
        | true =>
          rw [htb] at e4
          obtain ⟨S, hS⟩ : ∃ S, S = H ++ one 120 := ⟨_, rfl⟩
          have hS2 : H ++ (⟨#[120]⟩ : ByteArray) = S := hS.symm
          obtain ⟨wb, hwb⟩ : ∃ W, W = wr.alloc (.cells #[.string S, .string ⟨#[]⟩, .bool true] 77) := ⟨_, rfl⟩
          have hbb : Below wr.heap.size wr wb := by rw [hwb]; exact (Below.refl _ _).alloc (Nat.le_refl _) _
          have hsn : wb.rangeAt wr.heap.size 0 (tombE i).cells := by
            have := (snew wr [.string S, .string ⟨#[]⟩, .bool true] 77).at_
            rw [hwb]
            rw [hS, HH.out] at this ⊢
            exact this
          have hap := fun ty => sk72.app (own_later HX.out.2 hbb) (by have := hbb.size; have := hB0.out.2; omega) wr.heap.size (tombE i).cells hsn rfl (by intro u hu; simp [En.cells] at hu; rcases hu with rfl | rfl | rfl <;> rfl) (by omega) ty
          have HAp : Hid (∀ ty, ∃ v' w5, (Builtin.append_ #[72, 72] ty #[.slice oa k oc, .slice (some ⟨wr.heap.size, 0, none⟩) 1 1]).run Try.prog wb = .ok v' w5 ∧ Hid (w5.ownsRow (w.heap.size + 1) 77 3 v' (entL i x).length (enRow (entL i x)) ∧ Below w.heap.size w w5)) := Lib.hid fun ty => by
            obtain ⟨a', cap', w5, h1, h2, h3, h4, -⟩ := hap ty
            refine ⟨_, w5, h1, ?_, (hB0.out.1.trans (hbb.mono (by have := hB0.out.2; omega))).trans (h4.mono (Nat.le_succ _))⟩
            have e : entL i x = liveL' i k ++ [tombE i] := by rw [HMm.out, entL, htb]; simp
            rw [e, List.length_append, liveL_length, enRow_append, show enRow [tombE i] = (tombE i).cells by simp [enRow]]
            exact h2
          have HWB := Lib.hid hwb.symm
          have HS := Lib.hid hS2
          clear hbb hsn hap HX hwb hS hS2 htb d3 d4
          go_wp2_with (first | rw [HM.out] | rw [HS.out] | rw [HWB.out] | (at_builtin; refine append_run2 rfl (.tmp 38) (.tmp 42) 72 rfl rfl rfl HAp.out ?_; rintro v' w5 HX2; clear HAp) | fail)
          go_ret
          exact ⟨_, rfl, HX2.out⟩
end Go.Proofs.Ytjlifkhpohfiaaa
