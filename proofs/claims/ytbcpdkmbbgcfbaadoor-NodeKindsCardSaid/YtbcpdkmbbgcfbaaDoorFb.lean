/- NodeFells's law. Condition: the library's table stands. -/
import Derived.Test.YtbcpdkmbbgcfbaaDoorFa
import Derived.Test.YtbcpdkmbbgcfbaaDoorCx
namespace Go.Proofs.YtbcpdkmbbgcfbaaDoor
open Go.RowKit Go.Op
set_option maxRecDepth 100000

theorem ent_23 (xs : Array Value) (w : World) : (callFunc 23 xs).run Tryd.prog w = .ok (.enter 23 xs) w := by kernel_rfl
theorem HasE.lt {w0 w : World} {b c r : Nat} {G : List (Nat × List Value)} {m : M} (h : HasE w0 b c r G w m) : b < w.heap.size ∧ c < w.heap.size ∧ r < w.heap.size := by
  obtain ⟨m0, h1, -⟩ := h
  exact ⟨h1.at_.own.lb, h1.at_.own.lc, h1.at_.own.lr⟩
theorem laid_ver {w w' : World} {bs : List Nat} {b c r : Nat} {G : List (Nat × List Value)} {m : M} {y : Yd} {hd p1 p2 : Int} {l : List (Int × Rv × Int)} (hL : Laid w bs w' b c r G m y hd p1 p2 l) (hB : ∀ b, b ∈ bs → b ≤ 255) (h40 : bs.length ≤ 40) : ∀ x, x ∈ l → x.2.1.ver ≤ 1000000 := fun x hx => by
  have h1 : x.2.1.ver ∈ vers bs.reverse := by rw [← hL.vers]; exact List.mem_map_of_mem (f := fun x => x.2.1.ver) hx
  have h2 := vers_all bs.reverse (fun b hb => hB b (List.mem_reverse.1 hb)) _ h1
  rw [List.length_reverse] at h2
  omega
theorem ym_flat {m : M} {H hd p1 p2 : Int} {l : List (Int × Rv × Int)} (h : YM m H hd p1 p2 l) : hd ∉ flat l ∧ (flat l).Nodup ∧ H ∉ flat l := by
  have q := h.nd
  have h1 := List.nodup_cons.1 q
  have h2 := List.nodup_cons.1 h1.2
  have h3 := List.nodup_cons.1 h2.2
  have h4 := List.nodup_cons.1 h3.2
  exact ⟨fun e => h2.1 (List.mem_cons_of_mem _ (List.mem_cons_of_mem _ e)), h4.2, fun e => h1.1 (List.mem_cons_of_mem _ (List.mem_cons_of_mem _ (List.mem_cons_of_mem _ e)))⟩
/-- What is left fits. -/
theorem fits_behind {w1 w2 W : World} {bs : List Nat} {b c r : Nat} {G G2 : List (Nat × List Value)} {m m2 : M} {y : Yd} {hd p1 p2 : Int} {l : List (Int × Rv × Int)} (hL : Laid w1 bs w2 b c r G m y hd p1 p2 l) (hE : HasE w1 b c r G2 W m2) (hg : ∀ x, x ∈ G → x ∈ G2) {n : Nat} (hF : Felled m m2 l n) (h1 : 1 ≤ n) (h2 : n ≤ l.length) (h40 : l.length ≤ 40) (hver : ∀ x, x ∈ l → x.2.1.ver ≤ 1000000) :
    Calls Tryd.prog 22 #[Yd.v b y, .int .i64 (n : Int)] W fun e w' => e = .returned (.bool true) ∧ ButN [b, c, r] W.heap.size W w' := by
  match l, hL, hF, h2, h40, hver with
  | [], _, _, h2, _, _ => simp at h2; omega
  | x0 :: l', hL, hF, h2, h40, hver =>
  obtain ⟨k, rfl⟩ : ∃ k, n = k + 1 := ⟨n - 1, by omega⟩
  have hc := hF.ch
  have hch := hL.ch
  rw [← hL.vers] at hch
  rw [List.take_succ_cons] at hc
  have hcnt := hL.ym.cnt
  have hcn := hF.cnt
  have ht := List.length_take (i := k) (l := l')
  simp only [List.length_cons] at h2 h40 hcnt
  refine fits_any hE (by omega) (x0 := x0) (l' := l'.take k) (hd := hd) (p1 := p1) (p2 := p2) ?_ hc (by simp only [List.length_cons]; omega) (fun x hx => hver x ?_) hL.n (hch.more hg) (by rw [List.length_map]; simp only [List.length_cons]; omega) (k + 1) (by simp only [List.length_cons]; omega) (by rw [List.length_map]; simp only [List.length_cons]; omega) ?_ hE.lt
  · rw [hF.same hd (ym_flat hL.ym).1]; exact hL.ym.word
  · rcases List.mem_cons.1 hx with rfl | hx
    · exact List.mem_cons_self
    · exact List.mem_cons_of_mem _ (List.mem_of_mem_take hx)
  · rw [List.map_cons, List.map_cons, List.take_succ_cons, List.map_take]
set_option maxHeartbeats 2000000 in
theorem fells_law (w : World) (hT : TabAt w) (a : Option Addr) (cap : Nat) (bs : List Nat) (hb : Bys w [] a bs) (a8 : Nat) (h8 : a8 ≤ 255) : Calls Tryd.prog 5 #[.slice a bs.length cap, .int .u8 (a8 : Int)] w fun e w' => e = .returned (.bool true) ∧ Below w.heap.size w w' := by
  have haw := awake_any w hT
  have a4 := as4_yes
  have hm := hmf
  have HT := Lib.hid hT
  have HB := Lib.hid hb
  obtain ⟨n, hn⟩ : ∃ n, n = bs.length := ⟨_, rfl⟩
  have HN := Lib.hid hn
  have q8 : (a8 : Int) ≤ 255 := by omega
  rw [← hn]
  clear hT hb hn h8
  go_enter Tryd.func5, Tryd.ntmps5
  go_wp2_with fail
  refine haw.mono ?_
  rintro e w1 ⟨rfl, hb1⟩
  by_cases hin : 1 ≤ n ∧ n ≤ 40
  · have i1 : ¬ ((n : Int) < 1) := by omega
    have i2 : ¬ (40 < (n : Int)) := by omega
    have hl := lay_any w1 (HT.out.below hb1) (a := a) (cap := cap) bs (by rw [← HN.out]; omega) (HB.out.later hb1)
    rw [← HN.out] at hl
    have HB1 := Lib.hid hb1
    clear haw hb1
    go_wp2_with fail
    refine hl.mono ?_
    rintro e w2 ⟨⟨b, c, r, G, m, y, hd, p1, p2, l, rfl, hL⟩, hb2⟩
    have hver := laid_ver hL HB.out.le (by rw [← HN.out]; exact hin.2)
    have hlen := hL.len
    rw [← HN.out] at hlen
    obtain ⟨i, hi⟩ : ∃ i : Nat, (i : Int) = (a8 : Int) % (n : Int) := ⟨a8 % n, by omega⟩
    have hin2 : i < n := by have := Int.emod_lt_of_pos (a8 : Int) (b := (n : Int)) (by omega); omega
    obtain ⟨x, hx⟩ : ∃ x, l[i]? = some x := ⟨_, List.getElem?_eq_getElem (by omega)⟩
    obtain ⟨w3, hw3⟩ : ∃ W, W = w2.alloc (.cells (Yd.row b y).toArray 29) := ⟨_, rfl⟩
    obtain ⟨w4, hw4⟩ : ∃ W, W = w3.alloc (.cells #[.int .i64 (i : Int)] 3) := ⟨_, rfl⟩
    have hb3 : Below w2.heap.size w2 w3 := by rw [hw3]; exact (Below.refl _ _).alloc (Nat.le_refl _) _
    have hb4 : Below w3.heap.size w3 w4 := by rw [hw4]; exact (Below.refl _ _).alloc (Nat.le_refl _) _
    have hz3 : w3.heap.size = w2.heap.size + 1 := by rw [hw3]; simp
    have hz4 : w4.heap.size = w3.heap.size + 1 := by rw [hw4]; simp
    have hy3 : SVar w3 w2.heap.size (Yd.row b y) := by rw [hw3]; exact snew _ _ _
    have hy4 := hy3.later hb4
    have hi4 : SVar w4 w3.heap.size [.int .i64 (i : Int)] := by rw [hw4]; exact snew _ _ _
    have hE4 := (hL.has.later hb3).later hb4
    obtain ⟨g1, g2, g3⟩ := hL.has.lt
    have hcnt := hL.ym.cnt
    have hdo := do_any w4 b 23 #[.pointer (some ⟨w2.heap.size, 0, none⟩), .pointer (some ⟨w3.heap.size, 0, none⟩)] _ ent_23 (fells1_any hE4 (by omega) hx hL.ym.ch (by omega) (ym_flat hL.ym).2.1 hL.hs hy4 ⟨by omega, by simp only [List.mem_cons, List.not_mem_nil, or_false]; omega⟩ (hi4.cell (i := 0) rfl) ⟨by omega, by simp only [List.mem_cons, List.not_mem_nil, or_false]; omega⟩)
    have hhn := hL.hs.n
    rw [ints_length, List.length_map, hlen] at hhn
    have c0 := hy4.cell (i := 0) rfl
    have c6 := hy3.cell (i := 6) rfl
    rw [hhn] at c6
    have HL := Lib.hid (⟨hL, hver, hlen, hin2⟩ : _ ∧ _ ∧ _ ∧ _)
    have HK := Lib.hid (⟨hE4, hy4, hi4, hz3, hz4, g1, g2, g3⟩ : _ ∧ _ ∧ _ ∧ _ ∧ _ ∧ _ ∧ _ ∧ _)
    simp only [Yd.row] at hw3
    unfold Yd.v
    have HW3 := Lib.hid hw3.symm
    rw [hi] at hw4
    have HW4 := Lib.hid hw4.symm
    have HI := Lib.hid hi
    have i3 : (0 : Int) < (n : Int) := by omega
    have i4 : ¬ ((n : Int) = 0) := by omega
    clear hl hL hb2 hb3 hb4 hE4 hy3 hy4 hi4 g1 g2 g3 hw3 hw4 hver hlen hcnt hhn hx hz3 hz4 hi hin2
    go_wp2_with (first | rw [HW3.out] | rw [HW4.out] | fail)
    refine hdo.mono ?_
    rintro e w5 ⟨u, rfl, rfl, G2, m2, hbn, hE5, hgr, hF⟩
    obtain ⟨hL, hver, hlen, hin2⟩ := HL.out
    obtain ⟨hE4, hy4, hi4, hz3, hz4, g1, g2, g3⟩ := HK.out
    have hy5 : SVar w5 w2.heap.size (Yd.row b y) := hy4.same hbn.size (hbn.block _ (by omega) (by simp only [List.mem_cons, List.not_mem_nil, or_false]; omega))
    have hi5 : SVar w5 w3.heap.size [.int .i64 (i : Int)] := hi4.same hbn.size (hbn.block _ (by omega) (by simp only [List.mem_cons, List.not_mem_nil, or_false]; omega))
    have g0' := hy5.cell (i := 0) rfl
    have g1' := hy5.cell (i := 1) rfl
    have g2' := hy5.cell (i := 2) rfl
    have g3' := hy5.cell (i := 3) rfl
    have g4' := hy5.cell (i := 4) rfl
    have g5' := hy5.cell (i := 5) rfl
    have g6' := hy5.cell (i := 6) rfl
    have ci := hi5.cell (i := 0) rfl
    have hi9 : (i : Int) ≤ 40 := by omega
    have hfit := fits_behind hL hE5 hgr.1 hF (by omega) (by omega) (by omega) hver
    rw [show ((i + 1 : Nat) : Int) = (i : Int) + 1 by push_cast; rfl] at hfit
    have HE : Hid (∀ W, ButN [b, c, r] w5.heap.size w5 W → Below w.heap.size w W) := fun W hW => HB1.out.trans ((hE5.butBelow hW).mono HB1.out.size)
    unfold Yd.v at hfit
    clear hdo hbn hE5 hgr hF hL hver hlen hin2 hE4 hy4 hi4 hz3 hz4 g1 g2 g3 hy5 hi5 c0 c6
    go_wp2_with fail
    refine hfit.mono ?_
    rintro e w6 ⟨rfl, hb6⟩
    have HE2 := Lib.hid (HE.out w6 hb6)
    clear hfit hb6 HE
    go_wp2_with fail
    go_ret
    exact ⟨rfl, HE2.out⟩
  · have haw2 := awake_any w1 (HT.out.below hb1)
    have HF : Hid (∀ w4, Below w1.heap.size w1 w4 → Below w.heap.size w w4) := fun w4 h4 => hb1.trans (h4.mono hb1.size)
    clear haw hb1
    by_cases hn1 : 1 ≤ n
    · have i1 : ¬ ((n : Int) < 1) := by omega
      have i2 : (40 : Int) < (n : Int) := by omega
      go_wp2_with fail
      refine haw2.mono ?_
      rintro e w4 ⟨rfl, hb⟩
      have HE := Lib.hid (HF.out w4 hb)
      clear haw2 hb HF
      go_wp2
      go_ret
      exact ⟨rfl, HE.out⟩
    · have i1 : (n : Int) < 1 := by omega
      go_wp2_with fail
      refine haw2.mono ?_
      rintro e w4 ⟨rfl, hb⟩
      have HE := Lib.hid (HF.out w4 hb)
      clear haw2 hb HF
      go_wp2
      go_ret
      exact ⟨rfl, HE.out⟩
theorem fellsLaw (a0 : Option Addr) (l0 : List Int) (cap0 : Nat) {W : World} (h0 : BysI W a0 l0) (v : Int) (hv : (Lit.int .u8 v).wf = true) (_W : World) (hT : TabAt W) :
    Calls Tryd.prog 5 #[.slice a0 l0.length cap0, .int .u8 v] W fun e w' => e = .returned (.bool true) ∧ Below W.heap.size W w' := by
  simp [Lit.wf, IntKind.min, IntKind.max, IntKind.signed, IntKind.bits] at hv
  obtain ⟨n, rfl⟩ : ∃ n : Nat, v = (n : Int) := ⟨v.toNat, by omega⟩
  obtain ⟨bs, e, hb⟩ := h0.nat
  rw [← e]
  exact fells_law W hT a0 cap0 bs hb n (by omega)
end Go.Proofs.YtbcpdkmbbgcfbaaDoor
