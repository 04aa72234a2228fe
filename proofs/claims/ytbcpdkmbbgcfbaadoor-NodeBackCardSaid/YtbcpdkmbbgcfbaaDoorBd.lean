/- NodeBack's law. Condition: the library's table stands. -/
import Derived.Test.YtbcpdkmbbgcfbaaDoorBc
namespace Go.Proofs.YtbcpdkmbbgcfbaaDoor
open Go.RowKit Go.Op Go.ChangeShapes Go.WideShapes Go.ChangeAt Go.Deep
set_option maxRecDepth 100000

/-- Numbers that stand in memory. -/
def NumI (w : World) (a : Option Addr) (T : List Int) : Prop :=
  T = [] ∨ ∃ b off, a = some ⟨b, off, none⟩ ∧ b < w.heap.size ∧ ∀ k (hk : k < T.length), w.cell? ⟨b, off + k, none⟩ = some (.int .i64 (T[k]'hk))
section
variable {H : Type} {enc : TypeId × Value → H} {w : World} {base : Nat} {held : Bool}
theorem open_nums {spare : Nat → Bool} {a : Option Addr} {len cap : Nat} {d : DataW H} {p : List MemPlace} (h : DataW.Trod enc Tryd.prog w base spare held 25 (.slice a len cap) d p) (hsp : ∀ n, spare n = true) :
    ∃ T : List Int, T.length = len ∧ NumI w a T := by
  obtain ⟨fuel, hf⟩ := h
  rcases open_ints Tryd.underlying25 Tryd.underlying3 (by kernel_rfl) hf with ⟨hcs, _⟩ | ⟨x, l, c, zs, hcs, _, hl, hm, hz, _, hcell, hwz⟩
  · simp [Value.cells] at hcs
    obtain ⟨rfl, rfl, rfl⟩ := hcs
    exact ⟨[], rfl, .inl rfl⟩
  · simp [Value.cells] at hcs
    obtain ⟨rfl, rfl, rfl⟩ := hcs
    rw [hsp, if_pos rfl] at hz
    have e : (zs.take len).length = len := by rw [List.length_take]; omega
    refine ⟨zs.take len, e, ?_⟩
    by_cases h0 : len = 0
    · subst h0
      exact .inl (by simp)
    · obtain ⟨b, off, spot⟩ := x
      have hc := hcell 0 (by omega)
      have hspot : spot = none := by simpa [Addr.add] using World.cell?_spot hc
      subst hspot
      refine .inr ⟨b, off, rfl, World.block_lt_of_cell? w _ hc, fun k hk => ?_⟩
      have hk' : k < zs.length := by rw [e] at hk; omega
      have := hcell k hk'
      rw [show (⟨b, off, none⟩ : Addr).add k = ⟨b, off + k, none⟩ from by simp [Addr.add]] at this
      rw [this, List.getElem_take, List.getD_eq_getElem?_getD, List.getElem?_eq_getElem hk']
      rfl
end
theorem ent_31 (xs : Array Value) (w : World) : (callFunc 31 xs).run Tryd.prog w = .ok (.enter 31 xs) w := by kernel_rfl
set_option maxHeartbeats 2000000 in
theorem back_law (w : World) (hT : TabAt w) (low : ByteArray) (head : Int) (la : Option Addr) (links : List Int) (lcap : Nat) (hp : NumI w la links) (version : Int) :
    Calls Tryd.prog 7 #[.string low, .int .i64 head, .slice la links.length lcap, .int .i64 version] w fun e w' => e = .returned (.bool true) ∧ Below w.heap.size w w' := by
  obtain ⟨k, hk⟩ : ∃ k, k = links.length := ⟨_, rfl⟩
  rw [← hk]
  obtain ⟨wa, hwa⟩ : ∃ W, W = w.alloc (.cells #[.string low] 9) := ⟨_, rfl⟩
  obtain ⟨wb, hwb⟩ : ∃ W, W = wa.alloc (.cells #[.int .i64 head] 3) := ⟨_, rfl⟩
  obtain ⟨wc, hwc⟩ : ∃ W, W = wb.alloc (.cells #[.slice la k lcap] 25) := ⟨_, rfl⟩
  obtain ⟨wd, hwd⟩ : ∃ W, W = wc.alloc (.cells #[.int .i64 version] 3) := ⟨_, rfl⟩
  have ba : Below w.heap.size w wa := by rw [hwa]; exact (Below.refl _ _).alloc (Nat.le_refl _) _
  have bb : Below wa.heap.size wa wb := by rw [hwb]; exact (Below.refl _ _).alloc (Nat.le_refl _) _
  have bc : Below wb.heap.size wb wc := by rw [hwc]; exact (Below.refl _ _).alloc (Nat.le_refl _) _
  have bd : Below wc.heap.size wc wd := by rw [hwd]; exact (Below.refl _ _).alloc (Nat.le_refl _) _
  have za : wa.heap.size = w.heap.size + 1 := by rw [hwa]; simp
  have zb : wb.heap.size = wa.heap.size + 1 := by rw [hwb]; simp
  have zc : wc.heap.size = wb.heap.size + 1 := by rw [hwc]; simp
  have zd : wd.heap.size = wc.heap.size + 1 := by rw [hwd]; simp
  have sa : SVar wd w.heap.size [.string low] := (((by rw [hwa]; exact snew _ _ _ : SVar wa w.heap.size [.string low]).later bb).later bc).later bd
  have sb : SVar wd wa.heap.size [.int .i64 head] := ((by rw [hwb]; exact snew _ _ _ : SVar wb wa.heap.size [.int .i64 head]).later bc).later bd
  have sc : SVar wd wb.heap.size [.slice la k lcap] := (by rw [hwc]; exact snew _ _ _ : SVar wc wb.heap.size [.slice la k lcap]).later bd
  have sd : SVar wd wc.heap.size [.int .i64 version] := by rw [hwd]; exact snew _ _ _
  have bw : Below w.heap.size w wd := ba.trans ((bb.trans ((bc.trans (bd.mono bc.size)).mono bb.size)).mono ba.size)
  have haw := awake_any wd (hT.below bw)
  have a4 := as4_yes
  have hm := hmf
  have pe := ptr_eq24
  have HWa := Lib.hid hwa.symm
  have HWb := Lib.hid hwb.symm
  have HWc := Lib.hid hwc.symm
  have HWd := Lib.hid hwd.symm
  have HT := Lib.hid hT
  have HP := Lib.hid (⟨hp, hk⟩ : _ ∧ _)
  have HS := Lib.hid (⟨sa, sb, sc, sd, bw, za, zb, zc, zd⟩ : _ ∧ _ ∧ _ ∧ _ ∧ _ ∧ _ ∧ _ ∧ _ ∧ _)
  obtain ⟨n2, hn2⟩ : ∃ n2, n2 = low.size := ⟨_, rfl⟩
  clear hT hp hk hwa hwb hwc hwd ba bb bc bd za zb zc zd sa sb sc sd bw
  go_enter Tryd.func7, Tryd.ntmps7
  go_wp2_with (first | rw [HWa.out] | rw [HWb.out] | rw [HWc.out] | rw [HWd.out] | fail)
  refine haw.mono ?_
  rintro e w1 ⟨rfl, hb1⟩
  obtain ⟨sa, sb, sc, sd, bw, za, zb, zc, zd⟩ := HS.out
  have sa1 := sa.later hb1
  have sb1 := sb.later hb1
  have sc1 := sc.later hb1
  have sd1 := sd.later hb1
  have ca := sa1.cell (i := 0) rfl
  have cc := sc1.cell (i := 0) rfl
  have bw1 := bw.trans (hb1.mono bw.size)
  have HB1 := Lib.hid bw1
  have HS1 := Lib.hid (⟨sa1, sb1, sc1, sd1, hb1.size⟩ : _ ∧ _ ∧ _ ∧ _ ∧ _)
  clear haw sa sb sc sd bw za zb zc zd sa1 sb1 sc1 sd1 hb1 bw1
  by_cases hin : low.size ≤ 2000 ∧ k ≤ 30
  · have i1 : ¬ (2000 < (low.size : Int)) := by omega
    have i2 : ¬ (30 < (k : Int)) := by omega
    have hnew : Calls Tryd.prog 30 #[.int .i64 60] w1 fun e w' => Made w1 60 e w' := new_any 60 (by decide) (by decide) w1
    go_wp2_with fail
    refine hnew.mono ?_
    rintro e w4 ⟨b, c, r, rfl, hAt, hb4, g1, g2, g3⟩
    have hE0 : HasE w1 b c r [] w4 (M.new 60) :=
      ⟨M.new 60, ⟨hAt, new_ok _ (by decide), hb4, by omega, by omega, by omega⟩, (fun i x hx => by
        simp only [M.new, List.getElem?_replicate] at hx
        split at hx
        · cases hx; exact no_in
        · cases hx), Int.le_refl _, new_e _, fun g l hg => (by cases hg)⟩
    obtain ⟨w5, hw5⟩ : ∃ W, W = w4.alloc (.cells #[.pointer (some ⟨b, 0, none⟩)] 24) := ⟨_, rfl⟩
    have b5 : Below w4.heap.size w4 w5 := by rw [hw5]; exact (Below.refl _ _).alloc (Nat.le_refl _) _
    have hz5 : w5.heap.size = w4.heap.size + 1 := by rw [hw5]; simp
    have v7 : SVar w5 w4.heap.size [.pointer (some ⟨b, 0, none⟩)] := by rw [hw5]; exact snew _ _ _
    have l7 : LocM w1 b c r [] w5 w4.heap.size := by rw [hw5]; exact hE0.fresh _
    have hE5 := hE0.later b5
    have hs4 := hb4.size
    obtain ⟨sa, sb, sc, sd, hs1⟩ := HS1.out
    obtain ⟨-, -, -, -, -, za, zb, zc, zd⟩ := HS.out
    obtain ⟨hp, hk⟩ := HP.out
    have sa5 := (sa.later hb4).later b5
    have sb5 := (sb.later hb4).later b5
    have sc5 := (sc.later hb4).later b5
    have sd5 := (sd.later hb4).later b5
    have hT1 : TabAt w1 := HT.out.below HB1.out
    have hbw5 := HB1.out.trans ((hb4.trans (b5.mono hb4.size)).mono HB1.out.size)
    have hdo := do_any w5 b 31 #[.pointer (some ⟨wb.heap.size, 0, none⟩), .pointer (some ⟨w.heap.size, 0, none⟩), .pointer (some ⟨wa.heap.size, 0, none⟩), .pointer (some ⟨wc.heap.size, 0, none⟩), .pointer (some ⟨w4.heap.size, 0, none⟩)] _ ent_31
      (back1_any hE5 hT1 low head version links (by omega) la lcap (by
          rcases hp with e | ⟨g, o, e, hlt, hr⟩
          · exact .inl e
          · refine .inr ⟨g, o, e, by have := hbw5.size; omega, by simp only [List.mem_cons, List.not_mem_nil, or_false]; omega, fun j u hj => ?_⟩
            rw [World.cell?_of_block (w := w) (a := ⟨g, o + j, none⟩) (hbw5.block g hlt)]
            unfold ints at hj
            rw [List.getElem?_map] at hj
            obtain ⟨x, hx, rfl⟩ := Option.map_eq_some_iff.1 hj
            obtain ⟨hj2, rfl⟩ := List.getElem?_eq_some_iff.1 hx
            exact hr j hj2) (fun e => by
          rcases hp with e2 | ⟨g, o, e2, -⟩
          · exact e2
          · rw [e] at e2; cases e2)
        (by rw [← hk]; exact sc5.cell (i := 0) rfl) ⟨by omega, by simp only [List.mem_cons, List.not_mem_nil, or_false]; omega⟩
        (sa5.cell (i := 0) rfl) ⟨by omega, by simp only [List.mem_cons, List.not_mem_nil, or_false]; omega⟩
        (sb5.cell (i := 0) rfl) ⟨by omega, by simp only [List.mem_cons, List.not_mem_nil, or_false]; omega⟩
        (sd5.cell (i := 0) rfl) ⟨by omega, by simp only [List.mem_cons, List.not_mem_nil, or_false]; omega⟩
        (v7.cell (i := 0) rfl) ⟨by omega, by have := l7.ne; simp only [List.mem_cons, List.not_mem_nil, or_false]; omega⟩)
    have HF : Hid (∀ w6, ButN [b, c, r] w5.heap.size w5 w6 → Below w.heap.size w w6) := fun w6 h6 => HB1.out.trans ((hE5.butBelow h6).mono HB1.out.size)
    have c7 := v7.cell (i := 0) rfl
    have HW5 := Lib.hid hw5.symm
    clear hnew hAt hb4 g1 g2 g3 hE0 hw5 b5 hz5 v7 l7 hE5 hs4 sa sb sc sd hs1 za zb zc zd hp hk sa5 sb5 sc5 sd5 hT1 hbw5 ca cc
    go_wp2_with (first | rw [HW5.out] | fail)
    refine hdo.mono ?_
    rintro e w6 ⟨u, rfl, rfl, hb⟩
    have HE := Lib.hid (HF.out w6 hb)
    clear hdo hb HF
    go_wp2
    go_ret
    exact ⟨rfl, HE.out⟩
  · have haw2 := awake_any w1 (HT.out.below HB1.out)
    have HF : Hid (∀ w4, Below w1.heap.size w1 w4 → Below w.heap.size w w4) := fun w4 h4 => HB1.out.trans (h4.mono HB1.out.size)
    by_cases hn1 : low.size ≤ 2000
    · have i1 : ¬ (2000 < (low.size : Int)) := by omega
      have i2 : 30 < (k : Int) := by omega
      go_wp2_with fail
      refine haw2.mono ?_
      rintro e w4 ⟨rfl, hb⟩
      have HE := Lib.hid (HF.out w4 hb)
      clear haw2 hb HF
      go_wp2
      go_ret
      exact ⟨rfl, HE.out⟩
    · have i1 : 2000 < (low.size : Int) := by omega
      go_wp2_with fail
      refine haw2.mono ?_
      rintro e w4 ⟨rfl, hb⟩
      have HE := Lib.hid (HF.out w4 hb)
      clear haw2 hb HF
      go_wp2
      go_ret
      exact ⟨rfl, HE.out⟩
theorem backLaw (low : ByteArray) {P0 : Prop} (_h0 : P0) (head : Int) (_h1 : (Lit.int .i64 head).wf = true) (la : Option Addr) (links : List Int) (lcap : Nat) {W : World} (h2 : NumI W la links) (version : Int) (_h3 : (Lit.int .i64 version).wf = true) (_W : World) (hT : TabAt W) :
    Calls Tryd.prog 7 #[.string low, .int .i64 head, .slice la links.length lcap, .int .i64 version] W fun e w' => e = .returned (.bool true) ∧ Below W.heap.size W w' := back_law W hT low head la links lcap h2 version
end Go.Proofs.YtbcpdkmbbgcfbaaDoor
