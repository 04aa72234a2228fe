/- NodeFull's closure. Condition: the library's table stands. -/
import Derived.Test.YtbcpdkmbbgcfbaaDoorNx
namespace Go.Proofs.YtbcpdkmbbgcfbaaDoor
open Go.RowKit Go.Op
set_option maxRecDepth 100000

theorem make_ints (w : World) (n : Nat) (hn : n ≤ 65535) : (Instr.makeSlice 25 (.int .i64 (n : Int)) (.int .i64 (n : Int))).run Tryd.prog w = .ok (.slice (some ⟨w.heap.size, 0, none⟩) n n) (w.alloc (.cells (madeCells (Value.int .i64 0).cells (n * 1)) 3)) := by
  obtain ⟨i0, hi, hz0, hz1, hz2⟩ := info_parts info3
  have hr := run_make (P := Tryd.prog) w 25 3 i0 _ Tryd.underlying25 hi hz0 .i64 .i64 (n : Int) (n : Int) (by omega) (by omega) (by rw [hz2]; omega) (by omega)
  simp only [Int.toNat_natCast, hz1] at hr
  exact hr
theorem made_ints (n : Nat) : (madeCells (Value.int .i64 0).cells (n * 1)) = (ints (List.replicate n 0)).toArray := by
  have hc : (Value.int .i64 0).cells = #[.int .i64 0] := rfl
  rw [hc]
  apply Array.ext
  · simp [madeCells, ints]
  · intro i h1 h2
    simp [madeCells, ints, Nat.mod_one]
section
variable {w0 w : World} {b c r : Nat} {G : List (Nat × List Value)} {za zb zm : Nat}
set_option maxHeartbeats 2000000 in
theorem full1_any (n k : Nat) (hn : 1 ≤ n ∧ n ≤ 20) (hk : k ≤ 19) (h : HasE w0 b c r G w (M.new n)) (hT : TabAt w0)
    (ca : w.cell? ⟨za, 0, none⟩ = some (.int .i64 (k : Int))) (cb : w.cell? ⟨zb, 0, none⟩ = some (.int .i64 (n : Int))) (cm : w.cell? ⟨zm, 0, none⟩ = some (.pointer (some ⟨b, 0, none⟩))) (la : za < w.heap.size ∧ za ∉ [b, c, r]) (lb : zb < w.heap.size ∧ zb ∉ [b, c, r]) (lm : zm < w.heap.size ∧ zm ∉ [b, c, r]) :
    Calls Tryd.prog 40 (#[.pointer (some ⟨w.heap.size, 0, none⟩)] ++ #[.pointer (some ⟨za, 0, none⟩), .pointer (some ⟨zb, 0, none⟩), .pointer (some ⟨zm, 0, none⟩)]) (w.alloc (portObj b)) fun e w' => ∃ u, e = .returned u ∧ u = .iface 4 (.bool true) ∧ ButN [b, c, r] w.heap.size w w' := by
  have hD := Dgo.start h (Z := [b, c, r]) ⟨by simp, by simp, by simp⟩
  have k0 := fun (t1 : Value) (G1 : List (Nat × List Value)) (w1 : World) (m1 : M) (s1 : Pt) (hd : Dgo w0 b c r w.heap.size [b, c, r] w t1 G G1 w1 m1 s1) => (⟨LocM.cellD la.2 la.1 hd ca, LocM.cellD lb.2 lb.1 hd cb, LocM.cellD lm.2 lm.1 hd cm⟩ : _ ∧ _ ∧ _)
  obtain ⟨c1, c2, c3⟩ := k0 _ _ _ _ _ hD
  have K0 := Lib.hid k0
  have HT := Lib.hid hT
  have hmk := mkb4
  have hcn : (M.new n).cells.length = n := by simp [M.new]
  obtain ⟨h', e', m1, ego, q1, ⟨g', r1, r2, r3⟩, q2, hor⟩ := layW_go (nodeOf ⟨#[]⟩) (0 :: List.replicate k 0) [] (new_tidy n) (Int.le_refl _) (by simp; omega) (by rw [hcn]; omega) (by rw [hcn]; simp [M.new]) List.nodup_nil (fun x hx => by cases hx)
  rw [hcn] at q1 hor
  rw [show (M.new n).live = 0 from rfl] at hor
  rw [show (M.new n).count = 0 from rfl] at q2
  simp only [List.length_cons, List.length_replicate, List.length_nil] at r2 q2 hor
  obtain ⟨h2, e2, m2, ego2, p1, -, p2, hor2⟩ := layW_go (ageOf (tomb 1)) [0] [] r3 r1 (by simp; omega) (by omega) (by rw [q1]; rcases hor with ⟨x1, x2, x3⟩ | ⟨x1, x2, x3, x4⟩ <;> omega) List.nodup_nil (fun x hx => by cases hx)
  rw [q1] at hor2
  simp only [List.length_cons, List.length_nil] at hor2
  have hms := fun W => make_ints W k (by omega)
  simp only [made_ints] at hms
  obtain ⟨wa, hwa⟩ : ∃ W, W = (w.alloc (portObj b)).alloc (.cells (ints (List.replicate k 0)).toArray 3) := ⟨_, rfl⟩
  have ba : Below (w.alloc (portObj b)).heap.size (w.alloc (portObj b)) wa := by rw [hwa]; exact (Below.refl _ _).alloc (Nat.le_refl _) _
  have hDa := hD.later ba
  have sr : SVar wa (w.alloc (portObj b)).heap.size (ints (List.replicate k 0)) := by rw [hwa]; exact snew _ _ _
  have hl := Make_E hDa.sys HT.out (by simp [M.new]) ⟨#[]⟩ 0 ⟨(w.alloc (portObj b)).heap.size, 0, none⟩ k (List.replicate k 0) (by simp; omega) (fun j u hj => by rw [add_off, Nat.zero_add]; exact sr.cell hj) (fun _ => sr.lt)
  rw [List.length_replicate] at hl
  have HD := Lib.hid hDa
  have HG := Lib.hid (⟨ego, ego2⟩ : _ ∧ _)
  have HWa := Lib.hid hwa.symm
  have hk2 : (k : Int) ≤ 19 := by omega
  have hn2 : (n : Int) ≤ 20 := by omega
  show Calls Tryd.prog 40 #[.pointer (some ⟨w.heap.size, 0, none⟩), .pointer (some ⟨za, 0, none⟩), .pointer (some ⟨zb, 0, none⟩), .pointer (some ⟨zm, 0, none⟩)] (w.alloc (portObj b)) _
  clear h hT ca cb cm la lb lm hD k0 ego ego2 hwa ba hDa sr
  generalize hwp : w.alloc (portObj b) = wp at *
  go_enter Tryd.func40, Tryd.ntmps40
  go_wp2_with (first | rw [HWa.out] | fail)
  refine hl.mono ?_
  rintro e w1 hE
  obtain ⟨t1, G1, v, rfl, hv, ha⟩ := hE.done (ptDo_quiet w b)
  unfold makeP at hv ha
  rw [HG.out.1] at hv ha
  replace hv : v = .tuple #[.int .i64 h', .int .i64 e'] := hv
  subst hv
  simp only at ha
  have hD1 := HD.out.aft ha
  obtain ⟨c1', c2', c3'⟩ := K0.out _ _ _ _ _ hD1
  have HD1 := Lib.hid hD1
  have HLV := Lib.hid (fun W (hW : Below w1.heap.size w1 W) => live_E (hD1.later hW).sys.mem)
  clear c1 c2 c3 hl hE ha hD1
  rcases hor with ⟨x1, x2, x3⟩ | ⟨x1, x2, x3, x4⟩
  · have i1 : ¬ (n : Int) < (k : Int) + 2 := by omega
    subst x2
    replace x3 : m1.live = (k : Int) + 2 := by omega
    have HDW := Lib.hid (fun W (hW : Below w1.heap.size w1 W) => HD1.out.later hW)
    rw [x3] at HLV hor2
    go_wp2_with fail
    go_quiet ((go_at_call 36; exact Calls.quiet_of_same ((HLV.out _ (below_drewN _ _)).mono fun _ _ ⟨p, q⟩ => ⟨p, q.symm⟩)))
    go_wp2_with fail
    obtain ⟨W5, hW5⟩ : ∃ W5, W5 = w1.drewN nq := ⟨_, rfl⟩
    have hb5 : Below w1.heap.size w1 W5 := by rw [hW5]; exact below_drewN _ _
    rw [← hW5]
    clear hW5 nq
    clear c1' c2' c3'
    have d1 := (K0.out _ _ _ _ _ (HDW.out _ hb5)).1
    have d2 := (K0.out _ _ _ _ _ (HDW.out _ hb5)).2.1
    have d3 := (K0.out _ _ _ _ _ (HDW.out _ hb5)).2.2
    have HLV5 := Lib.hid (fun W (hW : Below W5.heap.size W5 W) => live_E ((HDW.out _ hb5).later hW).sys.mem)
    rw [x3] at HLV5
    go_quiet ((go_at_call 36; exact Calls.quiet_of_same ((HLV5.out _ (below_drewN _ _)).mono fun _ _ ⟨p, q⟩ => ⟨p, q.symm⟩)))
    go_wp2_with fail
    obtain ⟨W6, hW6⟩ : ∃ W6, W6 = W5.drewN nq := ⟨_, rfl⟩
    have hb6 : Below w1.heap.size w1 W6 := by rw [hW6]; exact hb5.trans ((below_drewN (B := W5.heap.size) _ _).mono hb5.size)
    rw [← hW6]
    have HLV6 := live_E (HDW.out _ hb6).sys.mem
    rw [x3] at HLV6
    clear hW6 nq
    refine HLV6.mono ?_
    rintro e wl ⟨rfl, rfl⟩
    clear HLV6 d1 d2 d3
    have d1 := (K0.out _ _ _ _ _ (HDW.out _ hb6)).1
    have d2 := (K0.out _ _ _ _ _ (HDW.out _ hb6)).2.1
    have d3 := (K0.out _ _ _ _ _ (HDW.out _ hb6)).2.2
    go_wp2_with fail
    refine (Tomb_any _ _).mono ?_
    rintro e w2 ⟨rfl, hb2⟩
    have hD2 := (HDW.out _ hb6).later hb2
    have hl2 := Lay_E hD2.sys HT.out (by omega) (tomb 1) .nil tomb_in 0
    clear d1 d2 d3
    obtain ⟨d1, d2, d3⟩ := K0.out _ _ _ _ _ hD2
    have HD2 := Lib.hid hD2
    unfold Rv.v at hl2 ⊢
    simp only [tomb, rv0, Pl.nil, Sl.nil] at hl2 ⊢
    clear hD2 hb2
    go_wp2_with fail
    refine hl2.mono ?_
    rintro e w3 hE
    obtain ⟨t2, G2, v, rfl, hv, ha⟩ := hE.done (ptDo_quiet w b)
    have eg2 := HG.out.2
    simp only [tomb, rv0] at eg2
    unfold layP at hv ha
    rw [eg2] at hv ha
    replace hv : v = .tuple #[.int .i64 h2, .int .i64 e2] := hv
    subst hv
    simp only at ha
    have hD3 := HD2.out.aft ha
    clear d1 d2 d3
    obtain ⟨d1, d2, d3⟩ := K0.out _ _ _ _ _ hD3
    have HLV3 := Lib.hid (fun W (hW : Below w3.heap.size w3 W) => live_E (hD3.later hW).sys.mem)
    have HB := Lib.hid (fun W (hW : Below w3.heap.size w3 W) => (hD3.later hW).but)
    clear hl2 hE ha hD3 eg2
    rcases hor2 with ⟨y1, y2, y3⟩ | ⟨y1, y2, y3, y4⟩
    · subst y2
      have j1 : ¬ (n : Int) - ((k : Int) + 2) < 2 := by omega
      replace y3 : m2.live = ((k : Int) + 2) + 2 := by omega
      rw [y3] at HLV3
      clear hn hk HG K0 HD1 HLV HDW HLV5 HD2 HD HT y1 y3
      go_wp2_with ((go_at_call 36; refine (HLV3.out _ (Below.refl _ _)).mono ?_; rintro e wl ⟨rfl, rfl⟩))
      go_ret
      exact ⟨_, rfl, rfl, HB.out _ (Below.refl _ _)⟩
    · subst y2 y3
      have j1 : (n : Int) - ((k : Int) + 2) < 2 := by omega
      replace y4 : m2.live = ((k : Int) + 2) := by omega
      rw [y4] at HLV3
      clear hn hk HG K0 HD1 HLV HDW HLV5 HD2 HD HT y1 y4
      go_wp2_with ((go_at_call 36; refine (HLV3.out _ (Below.refl _ _)).mono ?_; rintro e wl ⟨rfl, rfl⟩))
      go_ret
      exact ⟨_, rfl, rfl, HB.out _ (Below.refl _ _)⟩
  · have i1 : (n : Int) < (k : Int) + 2 := by omega
    subst x2
    subst x3
    have x3 := x4
    replace x3 : m1.live = 0 := by omega
    have HDW := Lib.hid (fun W (hW : Below w1.heap.size w1 W) => HD1.out.later hW)
    rw [x3] at HLV hor2
    go_wp2_with ((go_at_call 36; refine (HLV.out _ (Below.refl _ _)).mono ?_; rintro e wl ⟨rfl, rfl⟩))
    obtain ⟨W5, hW5⟩ : ∃ W5, W5 = w1 := ⟨_, rfl⟩
    have hb5 : Below w1.heap.size w1 W5 := by rw [hW5]; exact Below.refl _ _
    rw [← hW5]
    clear hW5
    clear c1' c2' c3'
    have d1 := (K0.out _ _ _ _ _ (HDW.out _ hb5)).1
    have d2 := (K0.out _ _ _ _ _ (HDW.out _ hb5)).2.1
    have d3 := (K0.out _ _ _ _ _ (HDW.out _ hb5)).2.2
    have HLV5 := Lib.hid (fun W (hW : Below W5.heap.size W5 W) => live_E ((HDW.out _ hb5).later hW).sys.mem)
    rw [x3] at HLV5
    go_quiet ((go_at_call 36; exact Calls.quiet_of_same ((HLV5.out _ (below_drewN _ _)).mono fun _ _ ⟨p, q⟩ => ⟨p, q.symm⟩)))
    go_wp2_with fail
    obtain ⟨W6, hW6⟩ : ∃ W6, W6 = W5.drewN nq := ⟨_, rfl⟩
    have hb6 : Below w1.heap.size w1 W6 := by rw [hW6]; exact hb5.trans ((below_drewN (B := W5.heap.size) _ _).mono hb5.size)
    rw [← hW6]
    have HLV6 := live_E (HDW.out _ hb6).sys.mem
    rw [x3] at HLV6
    clear hW6 nq
    refine HLV6.mono ?_
    rintro e wl ⟨rfl, rfl⟩
    clear HLV6 d1 d2 d3
    have d1 := (K0.out _ _ _ _ _ (HDW.out _ hb6)).1
    have d2 := (K0.out _ _ _ _ _ (HDW.out _ hb6)).2.1
    have d3 := (K0.out _ _ _ _ _ (HDW.out _ hb6)).2.2
    go_wp2_with fail
    refine (Tomb_any _ _).mono ?_
    rintro e w2 ⟨rfl, hb2⟩
    have hD2 := (HDW.out _ hb6).later hb2
    have hl2 := Lay_E hD2.sys HT.out (by omega) (tomb 1) .nil tomb_in 0
    clear d1 d2 d3
    obtain ⟨d1, d2, d3⟩ := K0.out _ _ _ _ _ hD2
    have HD2 := Lib.hid hD2
    unfold Rv.v at hl2 ⊢
    simp only [tomb, rv0, Pl.nil, Sl.nil] at hl2 ⊢
    clear hD2 hb2
    go_wp2_with fail
    refine hl2.mono ?_
    rintro e w3 hE
    obtain ⟨t2, G2, v, rfl, hv, ha⟩ := hE.done (ptDo_quiet w b)
    have eg2 := HG.out.2
    simp only [tomb, rv0] at eg2
    unfold layP at hv ha
    rw [eg2] at hv ha
    replace hv : v = .tuple #[.int .i64 h2, .int .i64 e2] := hv
    subst hv
    simp only at ha
    have hD3 := HD2.out.aft ha
    clear d1 d2 d3
    obtain ⟨d1, d2, d3⟩ := K0.out _ _ _ _ _ hD3
    have HLV3 := Lib.hid (fun W (hW : Below w3.heap.size w3 W) => live_E (hD3.later hW).sys.mem)
    have HB := Lib.hid (fun W (hW : Below w3.heap.size w3 W) => (hD3.later hW).but)
    clear hl2 hE ha hD3 eg2
    rcases hor2 with ⟨y1, y2, y3⟩ | ⟨y1, y2, y3, y4⟩
    · subst y2
      have j1 : ¬ (n : Int) - (0 : Int) < 2 := by omega
      replace y3 : m2.live = 2 := by omega
      rw [y3] at HLV3
      clear hn hk HG K0 HD1 HLV HDW HLV5 HD2 HD HT y1 y3
      go_wp2_with ((go_at_call 36; refine (HLV3.out _ (Below.refl _ _)).mono ?_; rintro e wl ⟨rfl, rfl⟩))
      go_ret
      exact ⟨_, rfl, rfl, HB.out _ (Below.refl _ _)⟩
    · subst y2 y3
      have j1 : (n : Int) - (0 : Int) < 2 := by omega
      replace y4 : m2.live = 0 := by omega
      rw [y4] at HLV3
      clear hn hk HG K0 HD1 HLV HDW HLV5 HD2 HD HT y1 y4
      go_wp2_with ((go_at_call 36; refine (HLV3.out _ (Below.refl _ _)).mono ?_; rintro e wl ⟨rfl, rfl⟩))
      go_ret
      exact ⟨_, rfl, rfl, HB.out _ (Below.refl _ _)⟩
end
end Go.Proofs.YtbcpdkmbbgcfbaaDoor
