/- What the law's fits comes to. Condition: the library's table stands. -/
import Derived.Test.YtbcpdkmbbgcfbaaDoorLf
namespace Go.Proofs.YtbcpdkmbbgcfbaaDoor
open Go.RowKit Go.Op
set_option maxRecDepth 100000

section
variable {w0 w : World} {b c r : Nat} {G : List (Nat × List Value)} {m : M}
set_option maxHeartbeats 2000000 in
theorem fits_any (h : HasE w0 b c r G w m) (hcm : m.count ≤ 100000) {y : Yd} {hd p1 p2 : Int} {x0 : Int × Rv × Int} {l' : List (Int × Rv × Int)} (hw : m.look hd = some (.word x0.1)) (hc : Ch m x0.1 (x0 :: l')) (hlen : (x0 :: l').length ≤ 40) (hver : ∀ x, x ∈ x0 :: l' → x.2.1.ver ≤ 1000000) (hn : y.n = ⟨⟨#[107]⟩, hd, [p1, p2]⟩)
    {chv : List Int} (hch : y.ch.In G (ints chv)) (hcl2 : chv.length ≤ 1000) (n : Nat) (hnl : n = (x0 :: l').length) (hcl : n ≤ chv.length) (htk : ((x0 :: l').map fun x => x.2.1.ver) = chv.take n) (hlt : b < w.heap.size ∧ c < w.heap.size ∧ r < w.heap.size) :
    Calls Tryd.prog 22 #[Yd.v b y, .int .i64 (n : Int)] w fun e w' => e = .returned (.bool true) ∧ ButN [b, c, r] w.heap.size w w' := by
  obtain ⟨wa, hwa⟩ : ∃ W, W = w.alloc (.cells (Yd.row b y).toArray 29) := ⟨_, rfl⟩
  have ba : Below w.heap.size w wa := by rw [hwa]; exact (Below.refl _ w).alloc (Nat.le_refl _) _
  have s1 : SVar wa w.heap.size (Yd.row b y) := by rw [hwa]; exact snew _ _ _
  have hza : wa.heap.size = w.heap.size + 1 := by rw [hwa]; simp
  have hl := left_any (h.later ba) hcm hw hc hlen hver hn hch (by omega) hcl2 ⟨by omega, by omega, by omega⟩
  have hld := s1.load sh29
  rw [htk] at hl
  have htl : (chv.take n).length = n := by rw [List.length_take]; omega
  have hchn : y.ch.n = chv.length := by rw [← ints_length]; exact hch.n
  have HB := Lib.hid (⟨ba, hza, s1, hlt, hch, hcl, htl⟩ : _ ∧ _ ∧ _ ∧ _ ∧ _ ∧ _ ∧ _)
  have hn40 : (n : Int) ≤ 40 := by omega
  have hn1 : (n : Int) ≤ (chv.length : Int) := by omega
  have c5 := s1.cell (i := 5) rfl
  rw [hchn] at c5
  simp only [Yd.row] at hwa hld
  have HW := Lib.hid hwa.symm
  have HCN := Lib.hid hchn
  unfold Yd.v at hl ⊢
  clear hchn h hcm hw hc hlen hver hn hch hcl hcl2 hlt hwa ba s1 hza htk htl hnl
  go_enter Tryd.func22, Tryd.ntmps22
  go_wp2_with (first | rw [HW.out] | ((with_reducible refine load_run ?_ (.tmp 2) 29 ?_ ?_ hld ?_); exact rfl; exact rfl; exact rfl) | fail)
  refine hl.mono ?_
  rintro e w2 ⟨sl, G2, m2, rfl, q1, q2, q3, q4, q5⟩
  obtain ⟨ba, hza, s1, hlt, hch, hcl, htl⟩ := HB.out
  have s2 : SVar w2 w.heap.size (Yd.row b y) := s1.same q1.size (q1.block _ s1.lt (by simp only [List.mem_cons, List.not_mem_nil, or_false]; omega))
  have hsn : sl.n = n := by rw [q5.n, ints_length, htl]
  have hch2 := hch.more fun x hx => q3.1 x hx
  clear c5
  have c5 := s2.cell (i := 5) rfl
  rw [HCN.out] at c5
  rw [hsn]
  have HQ := Lib.hid (⟨q1, q2, q5, hch2, ba, hza, hlt, hcl⟩ : _ ∧ _ ∧ _ ∧ _ ∧ _ ∧ _ ∧ _ ∧ _)
  have HF : Hid (∀ W, Below w2.heap.size w2 W → ButN [b, c, r] w.heap.size w W) := fun W hW => by
    have hs := q1.size
    refine ⟨hW.os.trans (q1.os.trans ba.os), hW.tape.trans (q1.tape.trans ba.tape), hW.output.trans (q1.output.trans ba.output), by have := hW.size; omega, fun z hz hn => ?_⟩
    rw [hW.block z (by omega), q1.block z (by omega) hn]
    exact ba.block z hz
  clear hl q1 q2 q3 q4 q5 ba hza s1 hlt hch hcl htl s2 hsn hch2 HB HW hld
  go_wp2_with fail
  go_loopw [7] (fun iv wr => ∃ i : Nat, iv = .int .i64 (i : Int) ∧ i ≤ n ∧ Hid (Below w2.heap.size w2 wr)) (fun iv _ => n - (intOf iv).toNat)
  case atStart => exact ⟨0, rfl, Nat.zero_le _, Below.refl _ _⟩
  case round =>
    obtain ⟨i, rfl, hi, hX⟩ := hrel
    obtain ⟨q1, q2, q5, hch2, ba, hza, hlt, hcl⟩ := HQ.out
    by_cases hin : i < n
    · have hin2 : (i : Int) < (n : Int) := by omega
      have hin3 : (i : Int) < (chv.length : Int) := by omega
      obtain ⟨x, hx⟩ : ∃ x, chv[i]? = some x := ⟨_, List.getElem?_eq_getElem (by omega)⟩
      have hE3 := q2.later hX.out
      obtain ⟨g, o, ea, ce⟩ := hE3.slcell (i := i) q5 (x := .int .i64 x) (ints_get (by rw [List.getElem?_take, if_pos hin]; exact hx))
      obtain ⟨g2, o2, ea2, ce2⟩ := hE3.slcell (i := i) hch2 (x := .int .i64 x) (ints_get hx)
      have c5r := ((hX.out).cell (p := ⟨w.heap.size, 5, none⟩) (by have := q1.size; show w.heap.size < w2.heap.size; omega)).trans c5
      have HN : Hid (∀ W, Below wr.heap.size wr W → Below w2.heap.size w2 W) := fun W hW => hX.out.trans (hW.mono hX.out.size)
      rw [ea2] at c5r
      rw [ea]
      clear q1 q2 q5 hch2 ba hza hlt hcl hE3 ea ea2 hx hX c5
      go_wp2_with fail
      go_quiet (fail)
      go_wp2_with fail
      exact ⟨⟨i + 1, rfl, by omega, HN.out _ (below_drewN _ _)⟩, by simp only [intOf]; omega⟩
    · have hin2 : ¬ (i : Int) < (n : Int) := by omega
      have HE := Lib.hid (HF.out wr hX.out)
      clear q1 q2 q5 hch2 ba hza hlt hcl hX c5
      go_wp2_with fail
      go_ret
      exact ⟨rfl, HE.out⟩
end
end Go.Proofs.YtbcpdkmbbgcfbaaDoor
