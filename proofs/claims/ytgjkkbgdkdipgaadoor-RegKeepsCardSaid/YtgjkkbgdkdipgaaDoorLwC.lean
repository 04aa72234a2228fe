/- What the law's lay comes to. Conditions: at most 64 clients and places; the library's table stands. -/
import Derived.Test.YtgjkkbgdkdipgaaDoorLwB
namespace Go.Proofs.YtgjkkbgdkdipgaaDoor
open Go.RowKit Go.Op
set_option maxRecDepth 100000

/-- Behind the closure. -/
structure LPost (w0 : World) (b c r : Nat) (G : List (Nat × List Sw)) (zy zo : Nat) (w : World) (a k : Nat) (w' : World) (R : Rg) (S P : List Int) (m : M) (t1 : Value) (G1 : List (Nat × List Sw)) : Prop where
  dgo : Dgo w0 b c r w.heap.size [b, c, r, zy, zo] w t1 G G1 w' m (ptDo w b)
  y : YVar w' zy b R
  o : w'.cell? ⟨zo, 0, none⟩ = some (.bool true)
  sl : S.length = a
  pl : P.length = k
  top : R.top = 3
  sn : R.sn = S.length
  pn : R.pn = P.length
  rs : RowAt w0 b c r w.heap.size t1 G1 w' R.sa S
  rp : RowAt w0 b c r w.heap.size t1 G1 w' R.pa P
  rg : ∀ g, (R.sa = some ⟨g, 0, none⟩ → S ≠ [] → w.heap.size ≤ g) ∧ (R.pa = some ⟨g, 0, none⟩ → P ≠ [] → w.heap.size ≤ g)
  rm : RM 0 m 3 S P 0 (List.replicate a (-1)) (List.replicate k (0, -1))
  cnt : m.count ≤ 200
  run : ((initRP a k).go ini0).2 = m
theorem ZRow.old {w0 : World} {b c r pb : Nat} {t : Value} {G : List (Nat × List Sw)} {w : World} {B : Nat} {l : List Int} {a : Option Addr} {n cp : Nat} (h : ZRow w0 b c r pb t G w B (.slice a n cp) l) (g : Nat) (e : a = some ⟨g, 0, none⟩) (_hl : l ≠ []) : B ≤ g := by
  subst e
  exact (h.own.lt g rfl).1
theorem RowAt.aside {w0 : World} {b c r pb : Nat} {t : Value} {G : List (Nat × List Sw)} {w w1 : World} {ad : Option Addr} {l : List Int} {z : Nat} (h : RowAt w0 b c r pb t G w ad l) (hb : But z w w1) (hz : ∀ g, ad = some ⟨g, 0, none⟩ → l ≠ [] → g ≠ z) : RowAt w0 b c r pb t G w1 ad l := by
  by_cases e : l = []
  · exact .inl e
  · refine h.imp id fun ⟨g, e1, hl, hc⟩ => ⟨g, e1, hl.same hb.size, fun i x hx => (World.cell?_of_block (w := w) (a := ⟨g, i, none⟩) (hb.block g hl.lt (hz g e1 e))).trans (hc i x hx)⟩
set_option maxHeartbeats 2000000 in
theorem lay1_any {w0 w : World} {b c r : Nat} {G : List (Nat × List Sw)} {za zk zy zo : Nat} (a k : Nat) (ha : 1 ≤ a ∧ a ≤ 64) (hk : k ≤ 64) (h : HasE w0 b c r G w (M.new 200)) (hT : TabAt w0)
    (ca : w.cell? ⟨za, 0, none⟩ = some (.int .i64 (a : Int))) (ck : w.cell? ⟨zk, 0, none⟩ = some (.int .i64 (k : Int))) (hy : YVar w zy b ⟨0, none, 0, 0, none, 0, 0⟩) (ho : w.cell? ⟨zo, 0, none⟩ = some (.bool true)) (fo : w.frozen? ⟨zo, 0, none⟩ = false)
    (la : LocM w0 b c r G w za) (lk : LocM w0 b c r G w zk) (ly : LocM w0 b c r G w zy) (lo : LocM w0 b c r G w zo) (hn : za ≠ zy ∧ za ≠ zo ∧ zk ≠ zy ∧ zk ≠ zo ∧ zy ≠ zo) :
    Calls Tryd.prog 41 (#[.pointer (some ⟨w.heap.size, 0, none⟩)] ++ #[.pointer (some ⟨za, 0, none⟩), .pointer (some ⟨zk, 0, none⟩), .pointer (some ⟨zy, 0, none⟩), .pointer (some ⟨zo, 0, none⟩)]) (w.alloc (portObj b)) fun e w' => ∃ u, e = .returned u ∧ ∃ R S P m t1 G1, LPost w0 b c r G zy zo w a k w' R S P m t1 G1 := by
  have hD := Dgo.start h (Z := [b, c, r, zy, zo]) ⟨by simp, by simp, by simp⟩
  have hi := init_E hD.sys hT (by simp [M.new])
  have HD := Lib.hid hD
  have HL := Lib.hid (⟨la, lk, ly, lo, hn⟩ : _ ∧ _ ∧ _ ∧ _ ∧ _)
  have HC := Lib.hid (⟨ca, ck, hy, ho, fo⟩ : _ ∧ _ ∧ _ ∧ _ ∧ _)
  show Calls Tryd.prog 41 #[.pointer (some ⟨w.heap.size, 0, none⟩), .pointer (some ⟨za, 0, none⟩), .pointer (some ⟨zk, 0, none⟩), .pointer (some ⟨zy, 0, none⟩), .pointer (some ⟨zo, 0, none⟩)] (w.alloc (portObj b)) _
  clear h ca ck hy ho fo la lk ly lo hn hD
  generalize hwp : w.alloc (portObj b) = wp at *
  go_enter Tryd.func41, Tryd.ntmps41
  go_wp2_with fail
  refine hi.mono ?_
  rintro e w1 hE
  obtain ⟨t1, G1, v, rfl, hv, ha1⟩ := hE.done (ptDo_quiet w b)
  replace hv : v = .tuple #[.int .i64 (initP.go (M.new 200)).1.1, .int .i64 (initP.go (M.new 200)).1.2] := hv
  rw [ini0_top] at hv
  subst hv
  have hD1 : Dgo w0 b c r w.heap.size [b, c, r, zy, zo] w t1 G G1 w1 ini0 (ptDo w b) := HD.out.aft ha1
  obtain ⟨la, lk, ly, lo, hn⟩ := HL.out
  obtain ⟨ca, ck, hy, ho, fo⟩ := HC.out
  have kz : ∀ z, LocM w0 b c r G w z → z ≠ zy → z ≠ zo → w1.heap[z]? = w.heap[z]? := fun z hl h1 h2 => hD1.but.block z hl.lt (by have := hl.ne; simp; omega)
  have c1 := (World.cell?_of_block (w := w) (a := ⟨za, 0, none⟩) (kz za la hn.1 hn.2.1)).trans ca
  have c2 := (World.cell?_of_block (w := w) (a := ⟨zk, 0, none⟩) (kz zk lk hn.2.2.1 hn.2.2.2.1)).trans ck
  have hir := initr_E hD1.sys hT (by have := ini0_n.2.2; omega) 3 a k
  have ky : w1.heap[zy]? = w.heap[zy]? := by
    have := ((hD1.old ly.lt ly.ne ly.ge ly.ng))
    obtain ⟨q1, q2⟩ := (HD.out.old ly.lt ly.ne ly.ge ly.ng).aft ha1
    rw [q2, ← hwp]
    exact ((Below.refl w.heap.size w).alloc (Nat.le_refl _) (portObj b)).block zy ly.lt
  have ko : w1.heap[zo]? = w.heap[zo]? := by
    obtain ⟨q1, q2⟩ := (HD.out.old lo.lt lo.ne lo.ge lo.ng).aft ha1
    rw [q2, ← hwp]
    exact ((Below.refl w.heap.size w).alloc (Nat.le_refl _) (portObj b)).block zo lo.lt
  have HD1 := Lib.hid hD1
  have HK := Lib.hid (⟨ky, ko⟩ : _ ∧ _)
  have HC1 := Lib.hid (⟨c1, c2⟩ : _ ∧ _)
  clear hi hE ha1 hD1 la lk ly lo hn ca ck hy ho fo kz ky ko HD
  go_wp2_with fail
  refine hir.mono ?_
  rintro e w2 hE
  obtain ⟨t2, G2, v, rfl, ⟨us, up, rfl, hus, hup⟩, ha2⟩ := hE.done (ptDo_quiet w b)
  have hD2 := HD1.out.aft ha2
  obtain ⟨la, lk, ly, lo, hn⟩ := HL.out
  obtain ⟨-, -, hy, ho, fo⟩ := HC.out
  have ky : w2.heap[zy]? = w.heap[zy]? := (((HD1.out.old ly.lt ly.ne ly.ge ly.ng).aft ha2).2).trans HK.out.1
  have ko : w2.heap[zo]? = w.heap[zo]? := (((HD1.out.old lo.lt lo.ne lo.ge lo.ng).aft ha2).2).trans HK.out.2
  have hy2 := hy.same ky
  have ho2 := (World.cell?_of_block (w := w) (a := ⟨zo, 0, none⟩) ko).trans ho
  have fo2 : w2.frozen? ⟨zo, 0, none⟩ = false := by rw [World.frozen?_of_block (w := w) (a := ⟨zo, 0, none⟩) ko]; exact fo
  obtain ⟨S, P, m', e1, e2, e3, e4, e5⟩ := rm_start a k ha hk
  have e6 : ((initRP a k).go ini0).2 = m' := by rw [e1]
  rw [e1] at hus hup hD2 ⊢
  simp only at hus hup hD2 ⊢
  simp only [if_true]
  obtain ⟨ua, uc, pa, pc, eu, ep, hrs, hrp⟩ : ∃ ua uc pa pc, us = .slice ua S.length uc ∧ up = .slice pa P.length pc ∧ RowAt w0 b c r w.heap.size t2 G2 w2 ua S ∧ RowAt w0 b c r w.heap.size t2 G2 w2 pa P := by
    obtain ⟨ua, uc, e, h1⟩ := hus.row
    obtain ⟨pa, pc, e', h2⟩ := hup.row
    exact ⟨ua, uc, pa, pc, e, e', h1, h2⟩
  subst eu
  subst ep
  have hsz1 : w.heap.size ≤ w1.heap.size := HD1.out.but.size
  have hgs := fun g e hl => Nat.le_trans hsz1 (hus.old g e hl)
  have hgp := fun g e hl => Nat.le_trans hsz1 (hup.old g e hl)
  obtain ⟨w3, hw3⟩ : ∃ W, W = w2.alloc (.cells #[.int .i64 3, .slice ua S.length uc, .slice pa P.length pc] 33) := ⟨_, rfl⟩
  have hb3 : Below w2.heap.size w2 w3 := by rw [hw3]; exact (Below.refl _ _).alloc (Nat.le_refl _) _
  have v3 : RVar w3 w2.heap.size ⟨3, ua, S.length, uc, pa, P.length, pc⟩ := by rw [hw3]; exact rnew w2 ⟨3, ua, S.length, uc, pa, P.length, pc⟩
  have lty := ly.lt
  have lto := lo.lt
  have hs2 := hD2.but.size
  have y3 := hy2.same (hb3.block zy (by omega))
  have o3 := (World.cell?_of_block (w := w2) (a := ⟨zo, 0, none⟩) (hb3.block zo (by omega))).trans ho2
  have fo3 : w3.frozen? ⟨zo, 0, none⟩ = false := by rw [World.frozen?_of_block (w := w2) (a := ⟨zo, 0, none⟩) (hb3.block zo (by omega))]; exact fo2
  obtain ⟨y0, y1, y2, y4, yf⟩ := y3
  obtain ⟨r0, r1, r2⟩ := v3.cells
  simp only at r0 r1 r2 y1 y2 y4
  obtain ⟨wf, hwf⟩ : ∃ W, W = (((w3.setCell ⟨zy, 1, none⟩ (.int .i64 3)).setCell ⟨zy, 2, none⟩ (.slice ua S.length uc)).setCell ⟨zy, 3, none⟩ (.slice pa P.length pc)).setCell ⟨zo, 0, none⟩ (.bool true) := ⟨_, rfl⟩
  have hby : But zy w3 (((w3.setCell ⟨zy, 1, none⟩ (.int .i64 3)).setCell ⟨zy, 2, none⟩ (.slice ua S.length uc)).setCell ⟨zy, 3, none⟩ (.slice pa P.length pc)) := (((But.refl _ _).set _ _).set _ _).set _ _
  have hbo : But zo (((w3.setCell ⟨zy, 1, none⟩ (.int .i64 3)).setCell ⟨zy, 2, none⟩ (.slice ua S.length uc)).setCell ⟨zy, 3, none⟩ (.slice pa P.length pc)) wf := by rw [hwf]; exact (But.refl _ _).set _ _
  have hD3 := hD2.later hb3
  have ly3 := hD3.old ly.lt ly.ne ly.ge ly.ng
  have lo3 := hD3.old lo.lt lo.ne lo.ge lo.ng
  have hD4 := (hD3.aside hby ly3 (.inl (by simp))).aside hbo (lo3.same hby.size) (.inl (by simp))
  have hpost : LPost w0 b c r G zy zo w a k wf ⟨3, ua, S.length, uc, pa, P.length, pc⟩ S P m' t2 G2 := by
    have hn1 := hn.2.2.2.2
    refine ⟨hD4, ?_, ?_, e2, e3, rfl, rfl, rfl, ?_, ?_, fun g => ⟨fun e hl => hgs g e hl, fun e hl => hgp g e hl⟩, e5, e4, e6⟩
    · rw [hwf]
      refine YVar.same (w := ((w3.setCell ⟨zy, 1, none⟩ (.int .i64 3)).setCell ⟨zy, 2, none⟩ (.slice ua S.length uc)).setCell ⟨zy, 3, none⟩ (.slice pa P.length pc)) ?_ (Below.heap_setCell _ _ _ _ hn1)
      exact ⟨set_other (set_other (set_other y0 (by omega)) (by omega)) (by omega), set_other (set_other (set_same y1) (by omega)) (by omega), set_other (set_same (set_other y2 (by omega))) (by omega), set_same (set_other (set_other y4 (by omega)) (by omega)), fun i => by rw [World.frozen?_setCell, World.frozen?_setCell, World.frozen?_setCell]; exact yf i⟩
    · rw [hwf]
      exact set_same ((World.cell?_of_block (w := w3) (a := ⟨zo, 0, none⟩) (hby.block zo lo3.lt hn1.symm)).trans o3)
    · exact ((hrs.later hb3).aside hby (fun g e hl => by have := hgs g e hl; omega)).aside hbo (fun g e hl => by have := hgs g e hl; omega)
    · exact ((hrp.later hb3).aside hby (fun g e hl => by have := hgp g e hl; omega)).aside hbo (fun g e hl => by have := hgp g e hl; omega)
  have HP := Lib.hid hpost
  have HW3 := Lib.hid hw3.symm
  have HWF := Lib.hid hwf.symm
  have fz3 := v3.fz
  have hne : zo ≠ zy := hn.2.2.2.2.symm
  have hz1 : zy < w3.heap.size := ly3.lt
  clear hir hE hus hup ha2 hD2 la lk ly lo hn hy ho fo ky ko hy2 ho2 fo2 e1 e2 e3 e4 e5 hrs hrp hgs hgp e6 hw3 hb3 v3 hby hbo hD3 ly3 lo3 hD4 hpost hwf HC HC1 HL HK HD1 hsz1 c1 c2
  go_wp2_with (first | rw [HW3.out] | fail)
  rw [HWF.out]
  go_ret
  exact ⟨_, rfl, _, _, _, _, _, _, HP.out⟩
/-- Behind lay. -/
structure Laid (w : World) (a k : Nat) (w' : World) (b c r : Nat) (G : List (Nat × List Sw)) (R : Rg) (S P : List Int) (m : M) : Prop where
  has : HasE w b c r G w' m
  rg : RgL w b c r G w' R S P
  rm : RM 0 m 3 S P 0 (List.replicate a (-1)) (List.replicate k (0, -1))
  top : R.top = 3
  sl : S.length = a
  pl : P.length = k
  cnt : m.count ≤ 200
  run : ((initRP a k).go ini0).2 = m
theorem enter_41 (xs : Array Value) (w : World) : (callFunc 41 xs).run Tryd.prog w = .ok (.enter 41 xs) w := by kernel_rfl
set_option maxHeartbeats 2000000 in
theorem lay_any (w : World) (hT : TabAt w) (a k : Nat) (ha : 1 ≤ a ∧ a ≤ 64) (hk : k ≤ 64) :
    Calls Tryd.prog 13 #[.int .i64 (a : Int), .int .i64 (k : Int)] w fun e w' => (∃ b c r G R S P m, e = .returned (.tuple #[yv b R, .bool true]) ∧ Laid w a k w' b c r G R S P m) ∧ Below w.heap.size w w' := by
  obtain ⟨wa, hwa⟩ : ∃ W, W = ((w.alloc (.cells #[.int .i64 (a : Int)] 3)).alloc (.cells #[.int .i64 (k : Int)] 3)).alloc (.cells #[.pointer none, .int .i64 0, .slice none 0 0, .slice none 0 0] 39) := ⟨_, rfl⟩
  have hza : wa.heap.size = w.heap.size + 3 := by rw [hwa]; simp
  have hba : Below w.heap.size w wa := by rw [hwa]; exact (((Below.refl _ _).alloc (Nat.le_refl _) _).alloc (by simp) _).alloc (by simp; omega) _
  have ca : wa.cell? ⟨w.heap.size, 0, none⟩ = some (.int .i64 (a : Int)) := by rw [hwa]; simp [go_sem]
  have ck : wa.cell? ⟨w.heap.size + 1, 0, none⟩ = some (.int .i64 (k : Int)) := by rw [hwa]; simp [go_sem]
  have hnew : Calls Tryd.prog 8 #[.int .i64 200] wa fun e w' => Made wa 200 e w' := new_any 200 (by decide) (by decide) wa
  have HW := Lib.hid hwa.symm
  have HA := Lib.hid (⟨hza, hba, ca, ck⟩ : _ ∧ _ ∧ _ ∧ _)
  have pe := ptr_eq24
  have hm := hmf1
  clear hza hba ca ck hwa
  go_enter Tryd.func13, Tryd.ntmps13
  go_wp2_with (first | rw [HW.out] | fail)
  refine hnew.mono ?_
  rintro e w1 ⟨b, c, r, rfl, hAt, hb1, q1, q2, q3⟩
  obtain ⟨hza, hba, ca, ck⟩ := HA.out
  have hs1 := hb1.size
  obtain ⟨wb, hwb⟩ : ∃ W, W = (w1.alloc (yobj b ⟨0, none, 0, 0, none, 0, 0⟩)).alloc (.cells #[.bool true] 4) := ⟨_, rfl⟩
  have b1 := (Below.refl w1.heap.size w1).alloc (Nat.le_refl _) (yobj b ⟨0, none, 0, 0, none, 0, 0⟩)
  have b2 := (Below.refl (w1.alloc (yobj b ⟨0, none, 0, 0, none, 0, 0⟩)).heap.size (w1.alloc (yobj b ⟨0, none, 0, 0, none, 0, 0⟩))).alloc (Nat.le_refl _) (.cells #[.bool true] 4)
  have hz1 : (w1.alloc (yobj b ⟨0, none, 0, 0, none, 0, 0⟩)).heap.size = w1.heap.size + 1 := by simp
  have hzb : wb.heap.size = w1.heap.size + 2 := by rw [hwb]; simp
  have hb2 : Below w1.heap.size w1 wb := by rw [hwb]; exact b1.alloc (by simp) _
  have hE0 : HasE w b c r [] w1 (M.new 200) :=
    ⟨M.new 200, ⟨hAt, new_ok 200 (by decide), hba.trans (hb1.mono (by omega)), by omega, by omega, by omega⟩, (fun i x hx => by
      simp only [M.new, List.getElem?_replicate] at hx
      split at hx
      · cases hx; exact no_in
      · cases hx), Int.le_refl _, new_e 200, fun g l hg => (by cases hg)⟩
  have hE1 := hE0.later hb2
  have ly : LocM w b c r [] wb w1.heap.size := by
    have := hE0.fresh (yobj b ⟨0, none, 0, 0, none, 0, 0⟩)
    rw [hwb]; exact this.later b2.size (Grow.refl _ _)
  have lo : LocM w b c r [] wb (w1.heap.size + 1) := by
    have := (hE0.later b1).fresh (.cells #[.bool true] 4)
    rw [hwb]
    rw [hz1] at this
    exact this
  have lw : ∀ j, j < 3 → LocM w b c r [] wb (w.heap.size + j) := fun j hj => ⟨by omega, by omega, ⟨by omega, by omega, by omega⟩, fun x hx => (by cases hx)⟩
  have kw : ∀ z, z < wa.heap.size → wb.heap[z]? = wa.heap[z]? := fun z hz => (hb2.block z (by omega)).trans (hb1.block z hz)
  have cwa : wb.cell? ⟨w.heap.size, 0, none⟩ = some (.int .i64 (a : Int)) := (World.cell?_of_block (w := wa) (a := ⟨w.heap.size, 0, none⟩) (kw w.heap.size (by omega))).trans ca
  have cwk : wb.cell? ⟨w.heap.size + 1, 0, none⟩ = some (.int .i64 (k : Int)) := (World.cell?_of_block (w := wa) (a := ⟨w.heap.size + 1, 0, none⟩) (kw (w.heap.size + 1) (by omega))).trans ck
  have hy : YVar wb w1.heap.size b ⟨0, none, 0, 0, none, 0, 0⟩ := by
    rw [hwb]
    exact (ynew w1 b _).same (b2.block _ (by omega))
  have ho : wb.cell? ⟨w1.heap.size + 1, 0, none⟩ = some (.bool true) := by rw [hwb, ← hz1]; simp [go_sem]
  have hfo : wb.frozen? ⟨w1.heap.size + 1, 0, none⟩ = false := by
    rw [hwb, ← hz1]
    exact World.frozen?_alloc_at _ 4 _ 0 rfl
  have hdo := do_any wb b 41 #[.pointer (some ⟨w.heap.size, 0, none⟩), .pointer (some ⟨w.heap.size + 1, 0, none⟩), .pointer (some ⟨w1.heap.size, 0, none⟩), .pointer (some ⟨w1.heap.size + 1, 0, none⟩)] _ enter_41
    (lay1_any a k ha hk hE1 hT cwa cwk hy ho hfo (lw 0 (by omega)) (lw 1 (by omega)) ly lo ⟨by omega, by omega, by omega, by omega, by omega⟩)
  unfold yobj at hwb
  simp only at hwb
  have HW2 := Lib.hid hwb.symm
  have HZ := Lib.hid (⟨hzb, kw, ly, lo, lw⟩ : _ ∧ _ ∧ _ ∧ _ ∧ _)
  have HH := Lib.hid (⟨q1, q2, q3, hs1⟩ : _ ∧ _ ∧ _ ∧ _)
  have HB1 := Lib.hid (⟨hb1, hb2⟩ : _ ∧ _)
  have cr : ∀ i v, (#[.pointer none, .int .i64 0, .slice none 0 0, .slice none 0 0] : Array Value)[i]? = some v → wa.cell? ⟨w.heap.size + 2, i, none⟩ = some v := fun i v hv => by
    rw [← HW.out]
    rw [show w.heap.size + 2 = ((w.alloc (.cells #[.int .i64 (a : Int)] 3)).alloc (.cells #[.int .i64 (k : Int)] 3)).heap.size by simp, World.cell?_alloc_new]
    exact hv
  have fr : ∀ i, wa.frozen? ⟨w.heap.size + 2, i, none⟩ = false := fun i => by
    rw [← HW.out]
    rw [show w.heap.size + 2 = ((w.alloc (.cells #[.int .i64 (a : Int)] 3)).alloc (.cells #[.int .i64 (k : Int)] 3)).heap.size by simp]
    exact World.frozen?_alloc_at _ 39 _ i rfl
  have HR := Lib.hid (⟨cr, fr⟩ : _ ∧ _)
  clear hnew hAt hb1 q1 q2 q3 b1 b2 hzb hb2 hE0 hE1 ly lo lw kw cwa cwk hy ho hfo hwb hs1 hza hba ca ck cr fr hz1
  go_wp2_with (first | rw [HW2.out] | fail)
  refine hdo.mono ?_
  rintro e w2 ⟨u, rfl, R, S, P, m, t2, G2, hM⟩
  have D2 := hM.dgo
  obtain ⟨hza, hba, ca, ck⟩ := HA.out
  obtain ⟨hzb, kw, ly, lo, lw⟩ := HZ.out
  obtain ⟨q1, q2, q3, hs1⟩ := HH.out
  have kr : w2.heap[w.heap.size + 2]? = wa.heap[w.heap.size + 2]? := (D2.but.block _ (by omega) (by simp; omega)).trans (kw _ (by omega))
  have k2 : ∀ i, w2.cell? ⟨w.heap.size + 2, i, none⟩ = wa.cell? ⟨w.heap.size + 2, i, none⟩ := fun i => World.cell?_of_block (w := wa) kr
  have r0 := (k2 0).trans (HR.out.1 0 _ rfl)
  have r1 := (k2 1).trans (HR.out.1 1 _ rfl)
  have r2 := (k2 2).trans (HR.out.1 2 _ rfl)
  have r3 := (k2 3).trans (HR.out.1 3 _ rfl)
  have rf : ∀ i, w2.frozen? ⟨w.heap.size + 2, i, none⟩ = false := fun i => by rw [World.frozen?_of_block (w := wa) (a := ⟨w.heap.size + 2, i, none⟩) kr]; exact HR.out.2 i
  obtain ⟨y0, y1, y2, y3, yf⟩ := hM.y
  have o1 := hM.o
  have hHE := D2.sys.mem
  have lr : LocM w b c r G2 w2 (w.heap.size + 2) := ⟨by have := D2.but.size; omega, by omega, ⟨by omega, by omega, by omega⟩, fun x hx e => (D2.gro.2 x hx).elim (fun e2 => (by cases e2)) fun e2 => by omega⟩
  obtain ⟨top, sa, sn, sc, pa, pn, pc⟩ := R
  simp only at y1 y2 y3
  obtain ⟨wf, hwf⟩ : ∃ W, W = ((((w2.setCell ⟨w.heap.size + 2, 0, none⟩ (.pointer (some ⟨b, 0, none⟩))).setCell ⟨w.heap.size + 2, 1, none⟩ (.int .i64 top)).setCell ⟨w.heap.size + 2, 2, none⟩ (.slice sa sn sc)).setCell ⟨w.heap.size + 2, 3, none⟩ (.slice pa pn pc)).drew := ⟨_, rfl⟩
  have hbf : But (w.heap.size + 2) w2 wf := by rw [hwf]; exact (((((But.refl _ _).set _ _).set _ _).set _ _).set _ _).drew
  have hyf : YVar wf (w.heap.size + 2) b ⟨top, sa, sn, sc, pa, pn, pc⟩ := by
    rw [hwf]
    exact ⟨set_other (set_other (set_other (set_same r0) (by omega)) (by omega)) (by omega), set_other (set_other (set_same (set_other r1 (by omega))) (by omega)) (by omega), set_other (set_same (set_other (set_other r2 (by omega)) (by omega))) (by omega), set_same (set_other (set_other (set_other r3 (by omega)) (by omega)) (by omega)), fun i => by
      show (((((w2.setCell _ _).setCell _ _).setCell _ _)).setCell _ _).frozen? _ = _
      rw [World.frozen?_setCell, World.frozen?_setCell, World.frozen?_setCell, World.frozen?_setCell]; exact rf i⟩
  have HE : Hid ((∃ b1 c1 r1 G1 R1 S1 P1 m1, Ending.returned (.tuple #[.agg #[.pointer (some ⟨b, 0, none⟩), .int .i64 top, .slice sa sn sc, .slice pa pn pc], .bool true]) = .returned (.tuple #[yv b1 R1, .bool true]) ∧ Laid w a k wf b1 c1 r1 G1 R1 S1 P1 m1) ∧ Below w.heap.size w wf) := by
    have num : ∀ {ad : Option Addr} {l : List Int}, RowAt w b c r wb.heap.size t2 G2 w2 ad l → (∀ g, ad = some ⟨g, 0, none⟩ → l ≠ [] → wb.heap.size ≤ g) → NumL w b c r G2 wf ad l := fun {ad l} h hg => by
      by_cases e : l = []
      · exact .inl e
      · refine h.imp id fun ⟨g, e1, hl, hc⟩ => ⟨g, e1, hl.m.later hbf.size (Grow.refl _ _), fun i x hx => ?_⟩
        have := hg g e1 e
        exact (World.cell?_of_block (w := w2) (a := ⟨g, i, none⟩) (hbf.block g hl.lt (by omega))).trans (hc i x hx)
    refine ⟨⟨b, c, r, G2, ⟨top, sa, sn, sc, pa, pn, pc⟩, S, P, m, rfl, hHE.aside hbf ⟨by omega, by omega, by omega, by omega, lr.ng⟩, ⟨hM.sn, hM.pn, hM.rm.sf, hM.rm.pf, num hM.rs fun g => (hM.rg g).1, num hM.rp fun g => (hM.rg g).2⟩, hM.rm, hM.top, hM.sl, hM.pl, hM.cnt, hM.run⟩, ?_⟩
    refine ⟨hbf.os.trans (D2.but.os.trans (HB1.out.2.os.trans (HB1.out.1.os.trans hba.os))), hbf.tape.trans (D2.but.tape.trans (HB1.out.2.tape.trans (HB1.out.1.tape.trans hba.tape))), hbf.output.trans (D2.but.output.trans (HB1.out.2.output.trans (HB1.out.1.output.trans hba.output))), by have := D2.but.size; have := hbf.size; omega, fun z hz => ?_⟩
    rw [hbf.block z (by have := D2.but.size; omega) (by omega), D2.but.block z (by omega) (by simp; omega), kw z (by omega)]
    exact hba.block z hz
  have HLV := Lib.hid hyf.loadVar
  have HW3 := Lib.hid hwf.symm
  have sz : w.heap.size + 2 < w2.heap.size := lr.lt
  have sz2 : w.heap.size + 2 < w1.heap.size := by omega
  unfold yv at HLV
  simp only at HLV
  clear hdo hM D2 hza hba ca ck hzb kw ly lo lw q1 q2 q3 hs1 kr k2 hHE lr hwf hbf hyf
  go_wp2_with fail
  go_region
  go_wp2_with fail
  rw [HW3.out]
  exact bodyPost_ret (results_cell2 (.bool true) Tryd.results13 rfl rfl HLV.out) rfl HE.out
end Go.Proofs.YtgjkkbgdkdipgaaDoor
