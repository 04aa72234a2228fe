/- PlanEmpties's law: it answers true. No condition. -/
import Derived.Test.YtjlifkhpohfiaaaEb
namespace Go.Proofs.Ytjlifkhpohfiaaa
open Go.RowKit Go.Op
set_option maxRecDepth 100000

theorem live_few (i : Nat) (x : Spc) : (liveL (entL i x)).length = x.live % 70 := by
  have h1 : ∀ n, liveL (liveL' i n) = liveL' i n := fun n => by
    unfold liveL
    rw [List.filter_eq_self]
    intro e he
    obtain ⟨k, -, rfl⟩ := List.mem_map.1 he
    rfl
  unfold entL
  cases x.tomb with
  | false =>
    simp only [Bool.false_eq_true, if_false, List.append_nil]
    rw [h1, liveL_length]
  | true =>
    have h2 : liveL (liveL' i (x.live % 70) ++ [tombE i]) = liveL (liveL' i (x.live % 70)) := by
      unfold liveL
      rw [List.filter_append]
      show _ ++ [] = _
      rw [List.append_nil]
    simp only [if_true]
    rw [h2, h1, liveL_length]
theorem same_D {l : List Spc} {n : Nat} {vl : List (Vw × Vs)} (h : VIs l n vl) (hn : n = l.length) : vD vl = nD (ndL l n) := by
  apply List.ext_getElem?
  intro i
  by_cases hi : i < n
  · obtain ⟨x, hx⟩ : ∃ x, l[i]? = some x := ⟨_, List.getElem?_eq_getElem (by omega)⟩
    obtain ⟨q, hq⟩ := h.2 i x hi hx
    have e1 : (vD vl)[i]? = some ((x.ver : Int), (liveL (entL i x)).length) := by
      unfold vD
      rw [List.getElem?_map, hq]; rfl
    have e2 : (nD (ndL l n))[i]? = some ((x.ver : Int), x.live % 70) := by
      unfold nD ndL
      rw [List.getElem?_map, List.getElem?_map, List.getElem?_take, if_pos hi, hx]; rfl
    rw [e1, e2, live_few]
  · rw [List.getElem?_eq_none (by unfold vD; rw [List.length_map, h.1]; omega), List.getElem?_eq_none (by rw [nD_length]; unfold ndL; rw [List.length_map, List.length_take]; omega)]
theorem few_ent {l : List Spc} {n : Nat} {vl : List (Vw × Vs)} (h : VIs l n vl) (hn : n = l.length) : ∀ x, x ∈ vl → x.1.rv.l.length ≤ 1000000 := fun y hy => by
  obtain ⟨i, hi, e⟩ := List.mem_iff_getElem.1 hy
  obtain ⟨x, H, h1, h2, h3, h4⟩ := h.at_ hn (i := i) (y := y) (by rw [← e]; exact List.getElem?_eq_getElem hi)
  rw [h4]
  show (entL i x).length ≤ 1000000
  have := entL_length i x
  omega
theorem len_48 (a : Option Addr) (n c : Nat) (ty : TypeId) (w : World) : (Builtin.len_ #[48] ty #[.slice a n c]).run Try.prog w = .ok (.int .i64 (n : Int)) w := by
  kernel_rfl
theorem load_4b {w : World} {p : Addr} {b : Bool} (h : w.cell? p = some (.bool b)) : (Instr.loadAt 4 (.pointer (some p))).run Try.prog w = .ok (.bool b) w := by go_simp
set_option maxHeartbeats 800000 in
theorem emptiesLaw_any (w : World) (a : Option Addr) (l : List Spc) (cap : Nat) (least : Int) (hS : Specs w a l) :
    Calls Try.prog 6 #[.slice a l.length cap, .int .i64 least] w fun e w' => e = .returned (.bool true) ∧ Below w.heap.size w w' := by
  have haw := awake_any
  obtain ⟨n, hn⟩ : ∃ n, n = l.length := ⟨_, rfl⟩
  have HS := Lib.hid hS
  have HN := Lib.hid hn
  have mixed : Try.prog.follows .mixedOrders = true := by kernel_rfl
  rw [← hn]
  clear hS hn
  by_cases h1 : n < 1
  · have h1' : (n : Int) < 1 := by omega
    have d1 : decide ((n : Int) < 1) = true := decide_eq_true h1'
    clear h1
    go_enter Try.func6, Try.ntmps6
    go_wp2_with fail
    refine (haw _).mono ?_
    rintro e w1 ⟨rfl, hb1⟩
    go_wp2_with fail
    refine (haw _).mono ?_
    rintro e w2 ⟨rfl, hb2⟩
    go_wp2_with fail
    go_ret
    exact ⟨rfl, hb1.trans (hb2.mono hb1.size)⟩
  by_cases h2 : 20 < n
  · have h1' : ¬ (n : Int) < 1 := by omega
    have d1 : decide ((n : Int) < 1) = false := decide_eq_false h1'
    have h2' : (20 : Int) < (n : Int) := by omega
    have d2 : decide ((20 : Int) < (n : Int)) = true := decide_eq_true h2'
    clear h1 h2
    go_enter Try.func6, Try.ntmps6
    go_wp2_with fail
    refine (haw _).mono ?_
    rintro e w1 ⟨rfl, hb1⟩
    go_wp2_with fail
    refine (haw _).mono ?_
    rintro e w2 ⟨rfl, hb2⟩
    go_wp2_with fail
    go_ret
    exact ⟨rfl, hb1.trans (hb2.mono hb1.size)⟩
  have h1' : ¬ (n : Int) < 1 := by omega
  have d1 : decide ((n : Int) < 1) = false := decide_eq_false h1'
  have h2' : ¬ (20 : Int) < (n : Int) := by omega
  have d2 : decide ((20 : Int) < (n : Int)) = false := decide_eq_false h2'
  have hn20 : n ≤ 20 := by omega
  have hn1 : 1 ≤ n := by omega
  clear h1 h2
  go_enter Try.func6, Try.ntmps6
  go_wp2_with fail
  refine (haw _).mono ?_
  rintro e w1 ⟨rfl, hb1⟩
  have hr := row_any w1 a cap l (HS.out.later hb1) (by rw [← HN.out]; exact hn1) (by rw [← HN.out]; exact hn20)
  rw [← HN.out] at hr
  have HB1 := Lib.hid hb1
  clear haw hb1
  go_wp2_with fail
  refine hr.mono ?_
  rintro e w2 ⟨va, vc, vl, rfl, q1, q2, q3, q4⟩
  have hD := same_D q1 HN.out
  have hem := empties_any w2 va vc vl q2 (few_ent q1 HN.out) least
  have hvn : vl.length = n := q1.1
  rw [hvn, hD] at hem
  have HB2 := Lib.hid (HB1.out.trans (q4.mono HB1.out.size))
  clear hr q1 q2 q3 q4 hD hvn
  go_wp2_with fail
  refine hem.mono ?_
  rintro e w3 ⟨ga, rfl, o3, b3⟩
  have HB3 := Lib.hid (HB2.out.trans (b3.mono HB2.out.size))
  have HO3 := Lib.hid o3
  have hnd := nodes_any w3 a cap l (HS.out.later HB3.out) (by rw [← HN.out]; omega)
  rw [← HN.out] at hnd
  clear hem o3 b3
  go_wp2_with fail
  refine hnd.mono ?_
  rintro e w4 ⟨ta, tc, rfl, q1, q2⟩
  have HB4 := Lib.hid (HB3.out.trans (q2.mono HB3.out.size))
  have hNn : (ndL l n).length = n := by unfold ndL; rw [List.length_map, List.length_take]; have := HN.out; omega
  have hre := refEmpties_any w4 ta tc (ndL l n) (by rw [hNn]; omega) q1 (fun x hx => by
    obtain ⟨y, -, rfl⟩ := List.mem_map.1 hx
    show y.live % 70 ≤ 1000000
    omega) least
  rw [hNn] at hre
  have HO4 := Lib.hid (own_later HO3.out q2)
  have HLn : Hid ((gL (nD (ndL l n)) least).length = n) := Lib.hid (by rw [gL_length, nD_length, hNn])
  clear hnd q1 q2 hNn
  go_wp2_with fail
  refine hre.mono ?_
  rintro e w5 ⟨gb, rfl, o5, b5⟩
  have HB5 := Lib.hid (HB4.out.trans (b5.mono HB4.out.size))
  obtain ⟨G, hG⟩ : ∃ G, G = gL (nD (ndL l n)) least := ⟨_, rfl⟩
  have HO5 : Hid ((w5.ownsRow w2.heap.size 4 1 (.slice (some ⟨ga, 0, none⟩) n n) n (bls G)) ∧ (w5.ownsRow w4.heap.size 4 1 (.slice (some ⟨gb, 0, none⟩) n n) n (bls G)) ∧ G.length = n) := by
    rw [hG]
    exact Lib.hid ⟨own_later HO4.out b5, o5, HLn.out⟩
  clear hre o5 b5 hG HO4 HLn HO3
  go_wp2_with fail
  go_loopw [9] (fun iv wr => ∃ j : Nat, iv = .int .i64 (j : Int) ∧ j ≤ n ∧ Hid (Below w5.heap.size w5 wr)) (fun iv _ => n - (intOf iv).toNat)
  case atStart => exact ⟨0, rfl, Nat.zero_le _, Lib.hid (Below.refl _ _)⟩
  case round =>
    obtain ⟨j, rfl, hj, HX⟩ := hrel
    by_cases hlt : j < n
    · have hlt2 : (j : Int) < (n : Int) := by omega
      obtain ⟨bb, hbb⟩ : ∃ b, G[j]? = some b := ⟨_, List.getElem?_eq_getElem (by rw [HO5.out.2.2]; exact hlt)⟩
      have HC : Hid ((∀ W, Below wr.heap.size wr W → W.cell? ⟨ga, j, none⟩ = some (.bool bb) ∧ W.cell? ⟨gb, j, none⟩ = some (.bool bb)) ∧ j < n ∧ decide ((n : Int) ≤ (j : Int)) = false) := Lib.hid ⟨fun W hW0 => (fun hW : Below w5.heap.size w5 W => ⟨by
        rw [(own_later HO5.out.1 hW).cellAt j (by omega)]; exact bls_get hbb, by
        rw [(own_later HO5.out.2.1 hW).cellAt j (by omega)]; exact bls_get hbb⟩) (HX.out.trans (hW0.mono HX.out.size)), hlt, decide_eq_false (by omega)⟩
      clear hbb
      go_wp2_with fail
      refine FreeV.region_puts (S := fun _ _ W => Below wr.heap.size wr W) (effs := [])
        (tab := [⟨2, fun _ => [.slice (some ⟨ga, 0, none⟩) n n], fun _ => .int .i64 (n : Int), .pure⟩,
          ⟨3, fun _ => [.int .i64 (j : Int), .int .i64 (n : Int)], fun _ => .bool false, .pure⟩,
          ⟨7, fun _ => [.slice (some ⟨ga, 0, none⟩) n n, .int .i64 (j : Int)], fun _ => .pointer (some ⟨ga, j, none⟩), .pure⟩,
          ⟨8, fun _ => [.pointer (some ⟨ga, j, none⟩)], fun _ => .bool bb, .read⟩,
          ⟨11, fun _ => [.slice (some ⟨gb, 0, none⟩) n n, .int .i64 (j : Int)], fun _ => .pointer (some ⟨gb, j, none⟩), .pure⟩,
          ⟨12, fun _ => [.pointer (some ⟨gb, j, none⟩)], fun _ => .bool bb, .read⟩,
          ⟨13, fun _ => [.bool bb, .bool bb], fun _ => .bool false, .pure⟩])
        (vs := [([], fun _ => .int .i64 (j : Int)), ([], fun _ => .slice (some ⟨ga, 0, none⟩) n n), ([], fun _ => .int .i64 (n : Int)), ([], fun _ => .bool false), ([], fun _ => .bool false), ([], fun _ => .slice (some ⟨ga, 0, none⟩) n n), ([], fun _ => .int .i64 (j : Int)), ([], fun _ => .pointer (some ⟨ga, j, none⟩)), ([], fun _ => .bool bb), ([], fun _ => .slice (some ⟨gb, 0, none⟩) n n), ([], fun _ => .int .i64 (j : Int)), ([], fun _ => .pointer (some ⟨gb, j, none⟩)), ([], fun _ => .bool bb), ([], fun _ => .bool false), ([], fun _ => .bool false)])
        (by kernel_rfl) ⟨by kernel_rfl, ⟨FreeV.d_len _ rfl rfl (fun _ => len_48 _ n _),
          FreeV.d_bin _ rfl rfl (fun _ xo yo W => cmp_geq3 _ _ _ HC.out.2.2),
          FreeV.d_at _ rfl rfl (fun _ W => at_48_0 ga n n j HC.out.2.1 W),
          FreeV.d_load _ rfl rfl (fun β bs W hS hd => load_4b (HC.out.1 W hS).1),
          FreeV.d_at _ rfl rfl (fun _ W => at_48_0 gb n n j HC.out.2.1 W),
          FreeV.d_load _ rfl rfl (fun β bs W hS hd => load_4b (HC.out.1 W hS).2),
          FreeV.d_bin _ rfl rfl (fun _ xo yo W => cmp_neq4 _ _ _ (by cases bb <;> rfl)),
          trivial⟩,
          fun β => by kernel_rfl, fun β => by kernel_rfl, by kernel_rfl, fun β => by kernel_rfl, by kernel_rfl⟩ (Below.refl _ _).drew (fun β => Free.from_ 43 [.int .i64 (j : Int), .slice (some ⟨ga, 0, none⟩) n n, .int .i64 (n : Int), .bool false, .bool false, .slice (some ⟨ga, 0, none⟩) n n, .int .i64 (j : Int), .pointer (some ⟨ga, j, none⟩), .bool bb, .slice (some ⟨gb, 0, none⟩) n n, .int .i64 (j : Int), .pointer (some ⟨gb, j, none⟩), .bool bb, .bool false, .bool false]) (fun β => by kernel_rfl) ?_
      intro β w4' h4
      rw [Free.puts_from _ _ _ (Nat.le_of_ble_eq_true rfl)]
      simp only [List.take_succ_cons, List.take_zero, List.drop_succ_cons, List.drop_zero, List.cons_append, List.nil_append, List.length_cons, List.length_nil, Nat.reduceAdd]
      have HX2 : Hid (Below w5.heap.size w5 w4') := Lib.hid (HX.out.trans (h4.mono HX.out.size))
      clear h4 HC HX
      go_wp2_with fail
      first
        | exact ⟨⟨j + 1, by simp, by omega, HX2⟩, by simp only [intOf]; omega⟩
        | (go_roundw
           case rel => exact ⟨j + 1, by simp, by omega, HX2⟩
           case measure => simp [intOf]; omega)
    · have hlt2 : ¬ (j : Int) < (n : Int) := by omega
      have HE := Lib.hid (HB5.out.trans (HX.out.mono HB5.out.size))
      clear HO5 HX
      go_wp2_with fail
      go_ret
      exact ⟨rfl, HE.out⟩
end Go.Proofs.Ytjlifkhpohfiaaa
