/- NodeChains's law. Condition: the library's table stands. -/
import Derived.Test.YtbcpdkmbbgcfbaaDoorCy
namespace Go.Proofs.YtbcpdkmbbgcfbaaDoor
open Go.RowKit Go.Op
set_option maxRecDepth 100000

theorem ent_14 (xs : Array Value) (w : World) : (callFunc 14 xs).run Tryd.prog w = .ok (.enter 14 xs) w := by kernel_rfl
theorem vers_all : ∀ (l : List Nat), (∀ b, b ∈ l → b ≤ 255) → ∀ u, u ∈ vers l → u ≤ 256 * (l.length : Int)
  | [], _, u, hu => by cases hu
  | b :: l, h, u, hu => by
    have h1 := vers_le l fun x hx => h x (List.mem_cons_of_mem _ hx)
    have h2 := h b List.mem_cons_self
    rw [vers] at hu
    rcases List.mem_cons.1 hu with rfl | hu
    · simp only [List.length_cons]; omega
    · have := vers_all l (fun x hx => h x (List.mem_cons_of_mem _ hx)) u hu
      simp only [List.length_cons]; omega
/-- The bytes of a parameter, for lay. -/
theorem BysI.nat {w : World} {a : Option Addr} {T : List Int} (h : BysI w a T) : ∃ bs : List Nat, bs.length = T.length ∧ Bys w [] a bs := by
  refine ⟨T.map Int.toNat, List.length_map .., ?_, ?_⟩
  · intro b hb
    obtain ⟨x, hx, rfl⟩ := List.mem_map.1 hb
    rcases h with e | ⟨g, o, e, hlt, hc⟩
    · subst e; cases hx
    · obtain ⟨k, hk, rfl⟩ := List.mem_iff_getElem.1 hx
      have := (hc k hk).2
      omega
  · rcases h with e | ⟨g, o, e, hlt, hc⟩
    · exact .inl (by rw [e]; rfl)
    · refine .inr ⟨g, o, e, hlt, by simp, fun j u hj => ?_⟩
      unfold u8s at hj
      rw [List.map_map, List.getElem?_map] at hj
      obtain ⟨x, hx, hj⟩ := Option.map_eq_some_iff.1 hj
      subst hj
      obtain ⟨hk, rfl⟩ := List.getElem?_eq_some_iff.1 hx
      obtain ⟨q1, q2, -⟩ := hc j hk
      rw [q1]
      simp only [Function.comp]
      rw [Int.toNat_of_nonneg q2]
theorem Bys.later {w w1 : World} {a : Option Addr} {bs : List Nat} (h : Bys w [] a bs) (hb : Below w.heap.size w w1) : Bys w1 [] a bs :=
  ⟨h.le, h.row.imp id fun ⟨g, o, e, hg, hz, hr⟩ => ⟨g, o, e, Nat.lt_of_lt_of_le hg hb.size, hz, fun j u hj => by
    rw [hb.cell (p := ⟨g, o + j, none⟩) hg]
    exact hr j u hj⟩⟩
set_option maxHeartbeats 2000000 in
theorem chains_law (w : World) (hT : TabAt w) (a : Option Addr) (cap : Nat) (bs : List Nat) (hb : Bys w [] a bs) (v : Int) : Calls Tryd.prog 3 #[.slice a bs.length cap, .int .i64 v] w fun e w' => e = .returned (.bool true) ∧ Below w.heap.size w w' := by
  obtain ⟨wa, hwa⟩ : ∃ W, W = w.alloc (.cells #[.int .i64 v] 3) := ⟨_, rfl⟩
  have hba : Below w.heap.size w wa := by rw [hwa]; exact (Below.refl _ _).alloc (Nat.le_refl _) _
  have hv : SVar wa w.heap.size [.int .i64 v] := by rw [hwa]; exact snew _ _ _
  have haw := awake_any wa (hT.below hba)
  have a4 := as4_yes
  have hm := hmf
  have HW := Lib.hid hwa.symm
  have HBa := Lib.hid hba
  have HT := Lib.hid hT
  have HB := Lib.hid hb
  have HVv := Lib.hid hv
  obtain ⟨n, hn⟩ : ∃ n, n = bs.length := ⟨_, rfl⟩
  have HN := Lib.hid hn
  rw [← hn]
  clear hT hb hba hv hwa hn
  go_enter Tryd.func3, Tryd.ntmps3
  go_wp2_with (first | rw [HW.out] | fail)
  refine haw.mono ?_
  rintro e w1 ⟨rfl, hb1⟩
  have hb01 := HBa.out.trans (hb1.mono HBa.out.size)
  by_cases hin : 1 ≤ n ∧ n ≤ 40
  · have i1 : ¬ ((n : Int) < 1) := by omega
    have i2 : ¬ (40 < (n : Int)) := by omega
    have hl := lay_any w1 (HT.out.below hb01) (a := a) (cap := cap) bs (by rw [← HN.out]; omega) (HB.out.later hb01)
    rw [← HN.out] at hl
    have HB1 := Lib.hid hb01
    have HV1 := Lib.hid (HVv.out.later hb1)
    clear haw hb1 hb01
    go_wp2_with fail
    refine hl.mono ?_
    rintro e w2 ⟨⟨b, c, r, G, m, y, hd, p1, p2, l, rfl, hL⟩, hb2⟩
    have hver : ∀ x, x ∈ l → x.2.1.ver ≤ 1000000 := fun x hx => by
      have h1 : x.2.1.ver ∈ vers bs.reverse := by rw [← hL.vers]; exact List.mem_map_of_mem (f := fun x => x.2.1.ver) hx
      have h2 := vers_all bs.reverse (fun b hb => HB.out.le b (List.mem_reverse.1 hb)) _ h1
      rw [List.length_reverse, ← HN.out] at h2
      omega
    have hlen := hL.len
    rw [← HN.out] at hlen
    match l, hL, hver, hlen with
    | [], hL, hver, hlen => simp at hlen; omega
    | x0 :: l', hL, hver, hlen =>
    obtain ⟨w3, hw3⟩ : ∃ W, W = w2.alloc (.cells (Yd.row b y).toArray 29) := ⟨_, rfl⟩
    have hb3 : Below w2.heap.size w2 w3 := by rw [hw3]; exact (Below.refl _ _).alloc (Nat.le_refl _) _
    have hE3 := hL.has.later hb3
    have hy3 : SVar w3 w2.heap.size (Yd.row b y) := by rw [hw3]; exact snew _ _ _
    have ly3 : LocM w1 b c r G w3 w2.heap.size := by rw [hw3]; exact hL.has.fresh _
    have hv3 := (HV1.out.later hb2).later hb3
    have hch := hL.ch
    rw [← hL.vers] at hch
    obtain ⟨g1, g2, g3, g4⟩ := hL.has.ge
    have hzv := HV1.out.lt
    have hdo := do_any w3 b 14 #[.pointer (some ⟨w2.heap.size, 0, none⟩), .pointer (some ⟨w.heap.size, 0, none⟩)] _ ent_14 (chains1_any hE3 hL.ym (by omega) hver hL.n hch hL.hs hy3 ly3 v (hv3.cell (i := 0) rfl) ⟨hv3.lt, by simp only [List.mem_cons, List.not_mem_nil, or_false]; omega⟩)
    have HF : Hid (∀ w4, ButN [b, c, r] w3.heap.size w3 w4 → Below w.heap.size w w4) := fun w4 h4 => HB1.out.trans ((hE3.butBelow h4).mono HB1.out.size)
    have c0 := hy3.cell (i := 0) rfl
    simp only [Yd.row] at hw3
    unfold Yd.v
    have HW3 := Lib.hid hw3.symm
    clear hl hL hb2 hb3 hE3 hy3 ly3 hv3 hch g1 g2 g3 g4 hzv hw3 hver hlen
    go_wp2_with (first | rw [HW3.out] | fail)
    refine hdo.mono ?_
    rintro e w4 ⟨u, rfl, rfl, hb⟩
    have HE := Lib.hid (HF.out w4 hb)
    clear hdo hb HF
    go_wp2
    go_ret
    exact ⟨rfl, HE.out⟩
  · have haw2 := awake_any w1 (HT.out.below hb01)
    have HF : Hid (∀ w4, Below w1.heap.size w1 w4 → Below w.heap.size w w4) := fun w4 h4 => hb01.trans (h4.mono hb01.size)
    clear haw hb1 hb01
    by_cases hn1 : 1 ≤ n
    · have i1 : ¬ ((n : Int) < 1) := by omega
      have i2 : (40 : Int) < (n : Int) := by omega
      go_wp2_with fail
      refine haw2.mono ?_
      rintro e w4 ⟨rfl, hb⟩
      have HE := Lib.hid (HF.out w4 hb)
      clear haw2 hb HF
      go_wp2
      go_ret
      exact ⟨rfl, HE.out⟩
    · have i1 : (n : Int) < 1 := by omega
      go_wp2_with fail
      refine haw2.mono ?_
      rintro e w4 ⟨rfl, hb⟩
      have HE := Lib.hid (HF.out w4 hb)
      clear haw2 hb HF
      go_wp2
      go_ret
      exact ⟨rfl, HE.out⟩
theorem chainsLaw (a0 : Option Addr) (l0 : List Int) (cap0 : Nat) {W : World} (h0 : BysI W a0 l0) (v : Int) (_hv : (Lit.int .i64 v).wf = true) (_W : World) (hT : TabAt W) :
    Calls Tryd.prog 3 #[.slice a0 l0.length cap0, .int .i64 v] W fun e w' => e = .returned (.bool true) ∧ Below W.heap.size W w' := by
  obtain ⟨bs, e, hb⟩ := h0.nat
  rw [← e]
  exact chains_law W hT a0 cap0 bs hb v
end Go.Proofs.YtbcpdkmbbgcfbaaDoor
