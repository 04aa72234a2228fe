/- What the code's Split and the reference's answer of any text: its runes, in a row of the call's own. Condition: the text has at most 1000 bytes. -/
import Derived.Test.YtgnmceefdbbhaaaWalkK
import Derived.WalkSmall
namespace Go.Proofs.Ytgnmceefdbbhaaa
open Go.RowKit

theorem info21 : (Try.prog.info? 21).map (fun i => (i.zero, i.size, i.bytes)) = some (some (.int .i32 0), 1, 4) := by kernel_rfl
def runeRow (l : List Int) : List Value := l.map (Value.int .i32)
/-- The slice v is the call's own row of the runes l. -/
def OwnsI (w : World) (base : Nat) (v : Value) (l : List Int) : Prop := w.ownsRow base 21 1 v l.length (runeRow l)
theorem OwnsI.alloc {w : World} {base : Nat} {v : Value} {l : List Int} (h : OwnsI w base v l) (o : Obj) : OwnsI (w.alloc o) base v l := World.ownsRow.alloc h o
theorem OwnsI.lt {w : World} {base : Nat} {v : Value} {l : List Int} (h : OwnsI w base v l) : ∀ k, v.ownBlock = some k → base ≤ k ∧ k < w.heap.size := World.ownsRow.lt h
theorem OwnsI.ne {w : World} {base : Nat} {v : Value} {l : List Int} (h : OwnsI w base v l) {K : Nat} {s : ByteArray} {pos : Nat} (hk : w.heap[K]? = some (.stringIter s pos)) : some K ≠ v.ownBlock := by
  intro e
  rcases h.2 with ⟨rfl, _⟩ | ⟨g, cap, cur, rfl, _, hg, _⟩
  · simp [Value.ownBlock] at e
  · simp [Value.ownBlock] at e
    rw [e, hg] at hk
    simp at hk
theorem OwnsI.iterAt {w : World} {base : Nat} {v : Value} {l : List Int} (h : OwnsI w base v l) {K : Nat} {s : ByteArray} {pos : Nat} (hk : w.heap[K]? = some (.stringIter s pos)) (p : Nat) : OwnsI (w.iterAt K s p) base v l := by
  have hne := h.ne hk
  obtain ⟨h1, h2⟩ := h
  refine ⟨h1, ?_⟩
  rcases h2 with h2 | ⟨g, cap, cur, rfl, b, c, d⟩
  · exact .inl h2
  · refine .inr ⟨g, cap, cur, rfl, b, ?_, d⟩
    rw [Lib.iterAt_other _ _ _ _ _ (by simp [Value.ownBlock] at hne; omega)]
    exact c
theorem runes_one (l : List Int) : ∀ u ∈ runeRow l, u.oneCell' = true := by
  intro u hu
  simp [runeRow] at hu
  obtain ⟨x, _, rfl⟩ := hu
  rfl
theorem wpList_append_rune {ops : Array Oper} {rest : List Oper} {o : Oper} {a : Act} {w : World} {Q : Exit → Act → World → Prop}
    (hg : o.guard = none) (s x : Operand) (hop : o.op = Op.call { callee := Callee.builtin Builtin.append, args := #[s, x], argTypes := #[25, 25] })
    (base : Nat) (v : Value) (l : List Int) (hs : a.eval s = v) (hown : OwnsI w base v l)
    (ad : Addr) (c : Nat) (r : Int) (hx : a.eval x = .slice (some ad) 1 c) (hc : ∀ j u, [Value.int .i32 r][j]? = some u → w.cell? (ad.add j) = some u) (hb : l.length + 1 ≤ 1000000) (hbase : base ≤ w.heap.size)
    (hK : ∀ v' w', OwnsI w' base v' (l ++ [r]) → w.grownBy w' v.ownBlock → wpList Try.prog ops Q rest (a.put o.dst v') w') :
    wpList Try.prog ops Q (o :: rest) a w := by
  obtain ⟨i0, hi, hz0, hz1, hz2⟩ := info_parts info21
  refine wpList_append_own w hg s x 25 hop base 21 i0 (.int .i32 0) 1 4 Try.underlying25 hi hz0 hz1 hz2 rfl (by decide) v _ _ hs hown ad 1 c [.int .i32 r] hx rfl hc (runes_one [r]) (by unfold maxLen; omega) (by omega) hbase ?_
  intro v' w' h1 h2 _
  refine hK v' w' ?_ h2
  unfold OwnsI runeRow
  rw [List.map_append, List.length_append]
  exact h1
theorem below_rune {B : Nat} {a w w' : World} {o : Obj} {v : Value} {l : List Int} (h : Below B a w) (hown : OwnsI w a.heap.size v l) (hg : (w.alloc o).grownBy w' v.ownBlock) (hB : B = a.heap.size := by rfl) : Below B a w' := by
  subst hB
  have := h.size
  exact (h.alloc (by omega) _).grown hg (by simp; omega) (fun k hk => (hown.lt k hk).1)
theorem iter_rune {w w' : World} {o : Obj} {v : Value} {l : List Int} {B K : Nat} {s : ByteArray} {pos : Nat} (hk : w.heap[K]? = some (.stringIter s pos)) (hown : OwnsI w B v l) (hg : (w.alloc o).grownBy w' v.ownBlock) : w'.heap[K]? = some (.stringIter s pos) := by
  have hlt := block_lt hk
  rw [hg.block K (by simp; omega) (hown.ne hk), Lib.alloc_old w _ K hlt]
  exact hk

/-- The runes of a text. -/
def runesZ (l : List UInt8) : List Int := (segs l).map fun g => (g.r : Int)
theorem runes_step {s : ByteArray} {pos : Nat} {acc : List Int} {r : Int} (hp : pos < s.size) (hr : r = ((Utf8.decode s pos).1 : Nat)) (H : acc ++ (segsAt s pos).map (fun g => (g.r : Int)) = runesZ s.data.toList) :
    (acc ++ [r]) ++ (segsAt s (pos + (Utf8.decode s pos).2)).map (fun g => (g.r : Int)) = runesZ s.data.toList := by
  rw [segsAt_step hp] at H
  rw [← H, hr]
  simp [sgAt_r]
theorem runes_end {s : ByteArray} {pos : Nat} {acc : List Int} (hp : ¬ pos < s.size) (H : acc ++ (segsAt s pos).map (fun g => (g.r : Int)) = runesZ s.data.toList) : acc = runesZ s.data.toList := by
  rw [segsAt_end hp] at H
  simpa using H

def NotNil (v : Value) : Prop := v ≠ .slice none 0 0
theorem OwnsI.notNil {w : World} {base : Nat} {v : Value} {l : List Int} (h : OwnsI w base v l) (hl : l ≠ []) : NotNil v := by
  rintro rfl
  rcases h.2 with ⟨_, h0⟩ | ⟨g, cap, cur, hv, _⟩
  · exact hl (List.eq_nil_of_length_eq_zero h0)
  · cases hv

set_option maxHeartbeats 4000000 in
set_option maxRecDepth 100000 in
theorem split_row (s : ByteArray) (w : World) (hs : s.size ≤ 2000) :
    Calls Try.prog 14 #[.string s] w fun e w' => ∃ v, e = .returned v ∧ OwnsI w' w.heap.size v (runesZ s.data.toList) ∧ Below w.heap.size w w' ∧ NotNil v := by
  obtain ⟨i0, hi, hz0, hz1, hz2⟩ := info_parts info21
  have hrc := Lib.runeCount_le s
  go_enter Try.func14, Try.ntmps14
  go_wp2_with (go_at_call 26; refine (Try.utf8_RuneCountInString s _ (by omega)).mono ?_)
  rintro e w0 ⟨rfl, p0, rfl⟩
  obtain ⟨wm, hmk, hom, hgm⟩ := run_makeSlice_owned (P := Try.prog) (w.iter s p0) w.heap.size 25 21 i0 (.int .i32 0) 1 Try.underlying25 hi hz0 hz1 .i64 .i64 (Lib.runeCount s) (by omega) (by rw [hz2]; omega) (by unfold maxLen; omega) (by simp [World.iter])
  have hom1 : OwnsI wm w.heap.size (.slice (some ⟨(w.iter s p0).heap.size, 0, none⟩) 0 (Lib.runeCount s)) [] := hom
  have hbm : Below w.heap.size w wm := ((Below.refl _ w).alloc (Nat.le_refl _) _).grown hgm (by simp) (fun k hk => by cases hk)
  clear hom hgm
  have hsm := hbm.size
  go_wp2
  go_loopw [3] (fun v wr => ∃ (pos : Nat) (acc : List Int), OwnsI wr w.heap.size v acc ∧ wr.heap[wm.heap.size]? = some (.stringIter s pos) ∧ Below w.heap.size w wr ∧ Hid (acc ++ (segsAt s pos).map (fun g => (g.r : Int)) = runesZ s.data.toList) ∧ pos ≤ s.size ∧ acc.length ≤ pos ∧ NotNil v) (fun _ wr => s.size - wr.iterPos wm.heap.size)
  case atStart => exact ⟨0, [], hom1.alloc _, World.iter_heap wm s 0, hbm.alloc (by omega) _, rfl, by omega, by simp, fun h => by cases h⟩
  case round =>
    obtain ⟨pos, acc, hown, hit, hbw, H, hps, hal, hnn⟩ := hrel
    have hsz := block_lt hit
    by_cases hp : pos < s.size
    · have hnx : ∀ ty, (Instr.next (.pointer (some ⟨wm.heap.size, 0, none⟩)) true ty).run Try.prog wr = _ := fun ty => Lib.run_next_any_at wr wm.heap.size s pos ty hit hp
      have hwd := decode_width hp
      have hown2 := hown.iterAt hit (pos + (Utf8.decode s pos).2)
      have hit2 := Lib.iterAt_heap wr wm.heap.size s pos (pos + (Utf8.decode s pos).2) hit
      have hbw2 := Lib.below_iterAt hbw (k := wm.heap.size) (by omega) s (pos + (Utf8.decode s pos).2)
      have hsz2 : w.heap.size ≤ (wr.iterAt wm.heap.size s (pos + (Utf8.decode s pos).2)).heap.size := by rw [Lib.iterAt_size]; omega
      clear hom1 hmk hown
      go_wp2_with (at_builtin; refine wpList_append_rune rfl (.tmp 14) (.tmp 16) rfl w.heap.size _ acc rfl (hown2.alloc _) ⟨(wr.iterAt wm.heap.size s (pos + (Utf8.decode s pos).2)).heap.size, 0, none⟩ 1 ((Utf8.decode s pos).1 : Nat) rfl (news_one _ _ _) (by omega) (by simp; omega) ?_)
      intro v' w3 hown' hgrow
      have i3 := iter_rune hit2 hown2 hgrow
      have b3 := below_rune hbw2 hown2 hgrow
      go_wp2
      go_roundw
      case rel => exact ⟨pos + (Utf8.decode s pos).2, _, hown', i3, b3, Lib.hid (runes_step hp rfl H.out), by omega, by simp; omega, hown'.notNil (by simp)⟩
      case measure =>
        simp only [World.iterPos, i3, hit]
        omega
    · have hnx : ∀ ty, (Instr.next (.pointer (some ⟨wm.heap.size, 0, none⟩)) true ty).run Try.prog wr = _ := fun ty => Lib.run_next_end_at wr wm.heap.size s pos ty hit hp
      have HE := Lib.hid (runes_end hp H.out)
      go_wp2
      go_ret
      rw [← HE.out]
      exact ⟨_, rfl, hown, hbw, hnn⟩

theorem split_any (s : ByteArray) (w : World) (hs : s.size ≤ 2000) :
    Calls Try.prog 14 #[.string s] w fun e w' => ∃ v, e = .returned v ∧ OwnsI w' w.heap.size v (runesZ s.data.toList) ∧ Below w.heap.size w w' :=
  (split_row s w hs).mono fun _ _ ⟨v, h1, h2, h3, _⟩ => ⟨v, h1, h2, h3⟩

theorem ref_value {s : ByteArray} {k : Nat} (w : World) (h : k < s.size) (hok : okB (s.data.toList.drop k) = true) :
    Calls Try.prog 27 #[.string (s.extract k (k + (Utf8.decode s k).2))] w fun e w' => e = .returned (.int .i32 ((Utf8.decode s k).1 : Nat)) ∧ w = w' := by
  have hs := (okB_iff (drop_ne h)).1 hok
  have hw := width_pos _ (drop_ne h)
  have e : (s.data.toList.drop k).take (Utf8.decode s k).2 ++ (s.data.toList.drop k).drop (Utf8.decode s k).2 = s.data.toList.drop k := List.take_append_drop _ _
  have := value_any (s.extract k (k + (Utf8.decode s k).2)) ((s.data.toList.drop k).take (Utf8.decode s k).2) ((s.data.toList.drop k).drop (Utf8.decode s k).2) w (by rw [e]; exact hs) (by rw [e, ← decode_decL, List.length_take, decode_decL]; omega) (by simp [ByteArray.data_extract])
  rw [e, ← decode_decL] at this
  exact this

theorem bad_rune {s : ByteArray} {k : Nat} (h : k < s.size) (hok : okB (s.data.toList.drop k) = false) : (Utf8.decode s k) = (65533, 1) := by
  have hs : ¬ Stands (s.data.toList.drop k) := fun x => by rw [(okB_iff (drop_ne h)).2 x] at hok; cases hok
  rw [decode_decL, decL_not (drop_ne h) hs]

set_option maxHeartbeats 4000000 in
set_option maxRecDepth 100000 in
theorem refsplit_any (s : ByteArray) (w : World) (hs : s.size ≤ 1000) :
    Calls Try.prog 15 #[.string s] w fun e w' => ∃ v, e = .returned v ∧ OwnsI w' w.heap.size v (runesZ s.data.toList) ∧ Below w.heap.size w w' := by
  go_enter Try.func15, Try.ntmps15
  go_wp2
  go_loopw [3, 4] (fun v i wr => ∃ (k : Nat) (acc : List Int), k ≤ s.size ∧ i = .int .i64 k ∧ OwnsI wr w.heap.size v acc ∧ Below w.heap.size w wr ∧ Hid (acc ++ (segsAt s k).map (fun g => (g.r : Int)) = runesZ s.data.toList) ∧ acc.length ≤ k) (fun _ i _ => s.size - (intOf i).toNat)
  case atStart => exact ⟨0, [], by omega, rfl, World.ownsRow_nil _ _ _ _, Below.refl _ w, rfl, by simp⟩
  case round =>
    obtain ⟨k, acc, hk, rfl, hown, hbw, H, hal⟩ := hrel
    have hsz := hbw.size
    by_cases hp : k < s.size
    · have hwd := decode_width hp
      by_cases hok : okB (s.data.toList.drop k) = true
      · have hne : ((((Utf8.decode s k).2 : Nat) : Int) == 0) = false := by simp; omega
        go_wp2_with (first | (go_at_call 25; refine (width_ok s k _ hs hp hok).mono ?_; rintro e w' ⟨rfl, rfl⟩) | (go_at_call 27; refine (ref_value _ hp hok).mono ?_; rintro e w' ⟨rfl, rfl⟩) | (at_builtin; refine wpList_append_rune rfl (.tmp 20) (.tmp 28) rfl w.heap.size _ acc rfl (hown.alloc _) ⟨wr.heap.size, 0, none⟩ 1 ((Utf8.decode s k).1 : Nat) rfl (news_one _ _ _) (by omega) (by simp; omega) ?_))
        intro v' w3 hown' hgrow
        have b3 := below_rune hbw hown hgrow
        go_wp2
        go_roundw
        case rel => exact ⟨k + (Utf8.decode s k).2, _, by omega, by go_num, hown', b3, Lib.hid (runes_step hp rfl H.out), by simp; omega⟩
        case measure => simp [intOf]; omega
      · have hok : okB (s.data.toList.drop k) = false := by simpa using hok
        have HB := Lib.hid (bad_rune hp hok)
        go_wp2_with (first | (go_at_call 25; refine (width_no s k _ hs hp hok).mono ?_; rintro e w' ⟨rfl, rfl⟩) | (at_builtin; refine wpList_append_rune rfl (.tmp 15) (.tmp 16) rfl w.heap.size _ acc rfl (hown.alloc _) ⟨wr.heap.size, 0, none⟩ 1 65533 rfl (news_one _ _ _) (by omega) (by simp; omega) ?_))
        intro v' w3 hown' hgrow
        have b3 := below_rune hbw hown hgrow
        go_wp2
        go_roundw
        case rel =>
          refine ⟨k + 1, _, by omega, by go_num, hown', b3, ?_, by simp; omega⟩
          have := runes_step (r := 65533) hp (by rw [HB.out]; rfl) H.out
          rw [HB.out] at this
          exact Lib.hid this
        case measure => simp [intOf]; omega
    · have HE := Lib.hid (runes_end hp H.out)
      go_wp2
      go_ret
      rw [← HE.out]
      exact ⟨_, rfl, hown, hbw⟩
end Go.Proofs.Ytgnmceefdbbhaaa
