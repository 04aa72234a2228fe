/- What the reference's Quote answers of any text: what the code's answers; RunesQuotes answers true. Condition: the text has at most 1000 bytes (longer ones: the law looks at none). -/
import Derived.Test.YtponiboiijgllaaDoorRWalkH
import Derived.Deep.RegionLaw
namespace Go.Proofs.YtponiboiijgllaaDoor
open Go.RowKit
set_option maxRecDepth 100000

theorem news_four (w : World) (a b c d : UInt8) : ∀ j u, (Lib.byteCells [a, b, c, d])[j]? = some u → (w.alloc (.cells #[.int .u8 a.toNat, .int .u8 b.toNat, .int .u8 c.toNat, .int .u8 d.toNat] 5)).cell? ((⟨w.heap.size, 0, none⟩ : Addr).add j) = some u := by
  intro j u hj
  match j, hj with
  | 0, hj => simp [Lib.byteCells] at hj; subst hj; simp [Addr.add]
  | 1, hj => simp [Lib.byteCells] at hj; subst hj; simp [Addr.add]
  | 2, hj => simp [Lib.byteCells] at hj; subst hj; simp [Addr.add]
  | 3, hj => simp [Lib.byteCells] at hj; subst hj; simp [Addr.add]
  | (j + 4), hj => simp [Lib.byteCells] at hj
theorem news_one (w : World) (t : TypeId) (x : Value) : ∀ j u, [x][j]? = some u → (w.alloc (.cells #[x] t)).cell? ((⟨w.heap.size, 0, none⟩ : Addr).add j) = some u := by
  intro j u hj
  match j, hj with
  | 0, hj => simp at hj; subst hj; simp [Addr.add]
  | (j + 1), hj => simp at hj
theorem cells_one (l : List UInt8) : ∀ u ∈ Lib.byteCells l, u.oneCell' = true := by
  intro u hu
  simp [Lib.byteCells] at hu
  obtain ⟨x, _, rfl⟩ := hu
  rfl
/-- The slice v is the call's own row of the bytes l. -/
def Owns (w : World) (base : Nat) (v : Value) (l : List UInt8) : Prop := w.ownsRow base 5 1 v l.length (Lib.byteCells l)
theorem Owns.alloc {w : World} {base : Nat} {v : Value} {l : List UInt8} (h : Owns w base v l) (o : Obj) : Owns (w.alloc o) base v l := World.ownsRow.alloc h o
theorem Owns.lt {w : World} {base : Nat} {v : Value} {l : List UInt8} (h : Owns w base v l) : ∀ k, v.ownBlock = some k → base ≤ k ∧ k < w.heap.size := World.ownsRow.lt h
theorem below_append {B : Nat} {a w w' : World} {o : Obj} {v : Value} {l : List UInt8} (h : Below B a w) (hown : Owns w a.heap.size v l) (hg : (w.alloc o).grownBy w' v.ownBlock) (hB : B = a.heap.size := by rfl) : Below B a w' := by
  subst hB
  have := h.size
  exact (h.alloc (by omega) _).grown hg (by simp; omega) (fun k hk => (hown.lt k hk).1)

/-- append onto a row of bytes that the call owns, inside a region that draws its order. -/
theorem step_append_bytes {ops : Array Oper} {o : Oper} {a : Act} {w : World} {K : Act → World → Prop} {Q : Exit → Act → World → Prop} {E : Prop}
    (hg : o.guard = none) (s x : Operand) (hop : o.op = Op.call { callee := Callee.builtin Builtin.append, args := #[s, x], argTypes := #[66, 66] })
    (base : Nat) (v : Value) (l : List UInt8) (hs : a.eval s = v) (hown : Owns w base v l)
    (ad : Addr) (m c : Nat) (news : List UInt8) (hx : a.eval x = .slice (some ad) m c) (hm : news.length = m) (hc : ∀ j u, (Lib.byteCells news)[j]? = some u → w.cell? (ad.add j) = some u) (hb : l.length + m ≤ 100000000) (hbase : base ≤ w.heap.size)
    (hK : ∀ v' w', Owns w' base v' (l ++ news) → w.grownBy w' v.ownBlock → K (a.put o.dst v') w') :
    if Region.wanted o (yielded ops a.tmps) = true then Oper.wp Tryd.prog o a w K Q else E := by
  obtain ⟨i0, hi, hz0, hz1, hz2⟩ := info_parts info5
  rw [if_pos (by simp [Region.wanted, hg])]
  refine wp_append_own w s x 66 hop base 5 i0 (.int .u8 0) 1 1 Tryd.underlying66 hi hz0 hz1 hz2 rfl (by decide) v _ _ hs hown ad m c (Lib.byteCells news) hx (by rw [Lib.byteCells_length]; omega) hc (cells_one _) (by unfold maxLen; omega) (by omega) hbase ?_
  intro v' w' h1 h2 _
  refine hK v' w' ?_ h2
  unfold Owns
  rw [Lib.byteCells_append, List.length_append, hm]
  exact h1

/-- append onto a row of bytes that the call owns. -/
theorem wpList_append_bytes {ops : Array Oper} {rest : List Oper} {o : Oper} {a : Act} {w : World} {Q : Exit → Act → World → Prop}
    (hg : o.guard = none) (s x : Operand) (hop : o.op = Op.call { callee := Callee.builtin Builtin.append, args := #[s, x], argTypes := #[66, 66] })
    (base : Nat) (v : Value) (l : List UInt8) (hs : a.eval s = v) (hown : Owns w base v l)
    (ad : Addr) (m c : Nat) (news : List UInt8) (hx : a.eval x = .slice (some ad) m c) (hm : news.length = m) (hc : ∀ j u, (Lib.byteCells news)[j]? = some u → w.cell? (ad.add j) = some u) (hb : l.length + m ≤ 100000000) (hbase : base ≤ w.heap.size)
    (hK : ∀ v' w', Owns w' base v' (l ++ news) → w.grownBy w' v.ownBlock → wpList Tryd.prog ops Q rest (a.put o.dst v') w') :
    wpList Tryd.prog ops Q (o :: rest) a w := by
  obtain ⟨i0, hi, hz0, hz1, hz2⟩ := info_parts info5
  refine wpList_append_own w hg s x 66 hop base 5 i0 (.int .u8 0) 1 1 Tryd.underlying66 hi hz0 hz1 hz2 rfl (by decide) v _ _ hs hown ad m c (Lib.byteCells news) hx (by rw [Lib.byteCells_length]; omega) hc (cells_one _) (by unfold maxLen; omega) (by omega) hbase ?_
  intro v' w' h1 h2 _
  refine hK v' w' ?_ h2
  unfold Owns
  rw [Lib.byteCells_append, List.length_append, hm]
  exact h1
/-- append of a text onto a row of bytes that the call owns. -/
theorem wpList_append_text {ops : Array Oper} {rest : List Oper} {o : Oper} {a : Act} {w : World} {Q : Exit → Act → World → Prop}
    (hg : o.guard = none) (s x : Operand) (hop : o.op = Op.call { callee := Callee.builtin Builtin.append, args := #[s, x], argTypes := #[66, 9] })
    (base : Nat) (v : Value) (l : List UInt8) (hs : a.eval s = v) (hown : Owns w base v l)
    (t : ByteArray) (hx : a.eval x = .string t) (news : List UInt8) (ht : Hid (t.data.toList = news)) (hb : l.length + news.length ≤ 100000000) (hbase : base ≤ w.heap.size)
    (hK : ∀ v' w', Owns w' base v' (l ++ news) → w.grownBy w' v.ownBlock → wpList Tryd.prog ops Q rest (a.put o.dst v') w') :
    wpList Tryd.prog ops Q (o :: rest) a w := by
  obtain ⟨i0, hi, hz0, hz1, hz2⟩ := info_parts info5
  have hsz : t.size = news.length := by rw [← ht.out]; simp
  refine Lib.wpList_append_own_string w hg s x 66 9 hop base 5 i0 Tryd.underlying66 Tryd.underlying9 hi hz0 hz1 hz2 v _ _ hs hown t hx (by unfold maxLen; omega) (by omega) hbase ?_
  intro v' w' h1 h2 _
  refine hK v' w' ?_ h2
  unfold Owns
  rw [Lib.byteCells_append, List.length_append, ← hsz]
  rw [Lib.strCells_eq, ht.out] at h1
  exact h1

set_option maxHeartbeats 4000000 in
set_option maxRecDepth 100000 in
theorem refquote_any (s : ByteArray) (w : World) (hs : s.size ≤ 1000000) :
    Calls Tryd.prog 33 #[.string s] w fun e w' => e = .returned (.string ⟨(quoteL s.data.toList).toArray⟩) ∧ Below w.heap.size w w' := by
  obtain ⟨i0, hi, hz0, hz1, hz2⟩ := info_parts info5
  go_enter Tryd.func33, Tryd.ntmps33
  go_wp2
  go_loopw [3, 4] (fun v i wr => ∃ (k : Nat) (acc : List UInt8), k ≤ s.size ∧ i = .int .i64 k ∧ Owns wr w.heap.size v acc ∧ Below w.heap.size w wr ∧ Hid (acc ++ (segsAt s k).flatMap quoteSeg ++ [34] = quoteL s.data.toList) ∧ acc.length ≤ 5 * k + 1) (fun _ i _ => s.size - (intOf i).toNat)
  case atStart =>
    refine ⟨0, [34], by omega, rfl, ?_, (Below.refl _ w).alloc (Nat.le_refl _) _, rfl, by simp⟩
    exact World.ownsRow_lit w #[.int .u8 34] 1 (Nat.le_refl _) (by unfold maxLen; omega) rfl
  case round =>
    obtain ⟨k, acc, hk, rfl, hown, hbw, H, hal⟩ := hrel
    have hsz := hbw.size
    by_cases hp : k < s.size
    · have hwd := decode_width hp
      have hu := u8_lt (s[k]'hp)
      by_cases hhex : okB (s.data.toList.drop k) = false ∨ (s[k]'hp).toNat < 32 ∨ (s[k]'hp).toNat = 127
      · obtain ⟨hX, hw1⟩ := ref_hex hp hhex
        have HX := Lib.hid hX
        have HW := Lib.hid hw1
        clear hX hw1
        have q0 : 0 ≤ ((s[k]'hp).toNat : Int) / 16 := by omega
        have q1 : ((s[k]'hp).toNat : Int) / 16 < 16 := by omega
        have q2 : 0 ≤ ((s[k]'hp).toNat : Int) % 16 := by omega
        have q3 : ((s[k]'hp).toNat : Int) % 16 < 16 := by omega
        have q4 : 0 ≤ ((s[k]'hp).toNat : Int).tmod 16 := by rw [IntWalk.rem_in _ _ (by omega)]; omega
        have q5 : ((s[k]'hp).toNat : Int).tmod 16 < 16 := by rw [IntWalk.rem_in _ _ (by omega)]; omega
        have p0 : IntKind.u8.wrap (((s[k]'hp).toNat : Int) / 16) = ((s[k]'hp).toNat : Int) / 16 := IntWalk.u8_in _ (by omega)
        have p1 : IntKind.u8.wrap (((s[k]'hp).toNat : Int) % 16) = ((s[k]'hp).toNat : Int) % 16 := IntWalk.u8_in _ (by omega)
        by_cases hok : okB (s.data.toList.drop k) = true
        · have hne : ((((Utf8.decode s k).2 : Nat) : Int) == 0) = false := by simp; omega
          have hbyte : (s[k]'hp).toNat < 32 ∨ (s[k]'hp).toNat = 127 := hhex.resolve_left (by rw [hok]; simp)
          clear hhex
          obtain ⟨hA, hB⟩ : (((s[k]'hp).toNat : Int) < 32 ∨ (32 : Int) ≤ ((s[k]'hp).toNat : Int)) ∧ ((((s[k]'hp).toNat : Int) < 32) ∨ (((s[k]'hp).toNat : Int) == 127) = true) := by
            refine ⟨by omega, ?_⟩
            rcases hbyte with h | h
            · exact .inl (by omega)
            · exact .inr (by simp; omega)
          clear hbyte
          rcases hB with h32 | t127
          clear hA
          rotate_left
          rcases hA with h32 | h32
          all_goals
            go_wp2_with (go_at_call 57; refine (width_ok s k _ hs hp hok).mono ?_; rintro e w' ⟨rfl, rfl⟩)
            go_region_law (first | (refine step_append_bytes rfl (.tmp 28) (.tmp 39) rfl w.heap.size u3 acc (by simp [Act.eval]) (hown.alloc _) ⟨wr.heap.size, 0, none⟩ 4 4 [92, 120, hexd ((s[k]'hp).toNat / 16), hexd ((s[k]'hp).toNat % 16)] (by simp [Act.eval]) rfl (news_four wr _ _ _ _) (by omega) (by simp; omega) ?_; intro v' w3 hown' hgrow) | (go_simp; go_at_call 58; refine (digit_any _ _ (by omega) (by omega)).mono ?_; rintro e w' ⟨rfl, rfl⟩))
            go_wp2
            all_goals
              go_roundw
              case rel =>
                refine ⟨k + 1, acc ++ [92, 120, hexd ((s[k]'hp).toNat / 16), hexd ((s[k]'hp).toNat % 16)], by omega, by go_num, hown', below_append hbw.drew hown hgrow, ?_, by simp; omega⟩
                have := quote_step hp H.out HX.out
                rw [HW.out] at this
                exact Lib.hid (by simpa using this)
              case measure => simp [intOf]; omega
        · have hok : okB (s.data.toList.drop k) = false := by simpa using hok
          clear hhex
          go_wp2_with (go_at_call 57; refine (width_no s k _ hs hp hok).mono ?_; rintro e w' ⟨rfl, rfl⟩)
          go_region_law (first | (refine step_append_bytes rfl (.tmp 28) (.tmp 39) rfl w.heap.size u3 acc (by simp [Act.eval]) (hown.alloc _) ⟨wr.heap.size, 0, none⟩ 4 4 [92, 120, hexd ((s[k]'hp).toNat / 16), hexd ((s[k]'hp).toNat % 16)] (by simp [Act.eval]) rfl (news_four wr _ _ _ _) (by omega) (by simp; omega) ?_; intro v' w3 hown' hgrow) | (go_simp; go_at_call 58; refine (digit_any _ _ (by omega) (by omega)).mono ?_; rintro e w' ⟨rfl, rfl⟩))
          go_wp2
          all_goals
            go_roundw
            case rel =>
              refine ⟨k + 1, acc ++ [92, 120, hexd ((s[k]'hp).toNat / 16), hexd ((s[k]'hp).toNat % 16)], by omega, by go_num, hown', below_append hbw.drew hown hgrow, ?_, by simp; omega⟩
              have := quote_step hp H.out HX.out
              rw [HW.out] at this
              exact Lib.hid (by simpa using this)
            case measure => simp [intOf]; omega
      · have hok : okB (s.data.toList.drop k) = true := by
          by_cases h : okB (s.data.toList.drop k) = true
          · exact h
          · exact absurd (.inl (by simpa using h)) hhex
        have hne : ((((Utf8.decode s k).2 : Nat) : Int) == 0) = false := by simp; omega
        have h32 : (32 : Int) ≤ ((s[k]'hp).toNat : Int) := by omega
        have h127 : (((s[k]'hp).toNat : Int) == 127) = false := by simp; omega
        have HB := Lib.hid (show (s.extract k (k + (Utf8.decode s k).2)).data.toList = (s.data.toList.drop k).take (Utf8.decode s k).2 by simp [ByteArray.data_extract])
        have hlen : ((s.data.toList.drop k).take (Utf8.decode s k).2).length ≤ (Utf8.decode s k).2 := by simp; omega
        by_cases hm : (s[k]'hp).toNat = 34 ∨ (s[k]'hp).toNat = 92
        · have HX := Lib.hid (ref_mark hp hok hm)
          obtain ⟨X, hX⟩ : ∃ X, X = (s.data.toList.drop k).take (Utf8.decode s k).2 := ⟨_, rfl⟩
          rw [← hX] at HB HX hlen
          have hm2 : (((s[k]'hp).toNat : Int) == 34) = true ∨ ((((s[k]'hp).toNat : Int) == 34) = false ∧ (((s[k]'hp).toNat : Int) == 92) = true) := by
            rcases hm with h | h
            · exact .inl (by simp; omega)
            · exact .inr ⟨by simp; omega, by simp; omega⟩
          clear hm hhex hX
          rcases hm2 with t34 | ⟨t34, t92⟩
          all_goals
            go_wp2_with (first | (go_at_call 57; refine (width_ok s k _ hs hp hok).mono ?_; rintro e w' ⟨rfl, rfl⟩) | (at_builtin; refine wpList_append_bytes rfl (.tmp 53) (.tmp 54) rfl w.heap.size _ acc rfl (hown.alloc _) ⟨wr.heap.size, 0, none⟩ 1 1 [92] rfl rfl (news_one _ _ _) (by omega) (by simp; omega) ?_))
            intro v' w3 hown' hgrow
            have hb3 := below_append hbw hown hgrow
            have hsz3 := hb3.size
            have hal3 : (acc ++ [92]).length = acc.length + 1 := by simp
            have HAL := Lib.hid hal3
            clear hal3
            go_wp2_with (refine wpList_append_text rfl (.tmp 56) (.tmp 62) rfl w.heap.size _ (acc ++ [92]) rfl hown' _ rfl X HB (by rw [HAL.out]; omega) (by omega) ?_; intro v'' w4 hown'' hgrow')
            go_roundw
            case rel =>
              refine ⟨k + (Utf8.decode s k).2, acc ++ [92] ++ X, by omega, by go_num, hown'', hb3.grown hgrow' (by omega) (fun j hj => (hown'.lt j hj).1), ?_, by simp; omega⟩
              have := quote_step hp H.out HX.out
              exact Lib.hid (by simpa using this)
            case measure => simp [intOf]; omega
        · have HX := Lib.hid (ref_rune hp hok (by omega) (fun x => by simp at h127; omega) (by omega))
          have t34 : (((s[k]'hp).toNat : Int) == 34) = false := by simp; omega
          have t92 : (((s[k]'hp).toNat : Int) == 92) = false := by simp; omega
          obtain ⟨X, hX⟩ : ∃ X, X = (s.data.toList.drop k).take (Utf8.decode s k).2 := ⟨_, rfl⟩
          rw [← hX] at HB HX hlen
          clear hm hhex hX
          go_wp2_with (first | (go_at_call 57; refine (width_ok s k _ hs hp hok).mono ?_; rintro e w' ⟨rfl, rfl⟩) | (refine wpList_append_text rfl (.tmp 56) (.tmp 62) rfl w.heap.size _ acc rfl hown _ rfl X HB (by omega) (by omega) ?_; intro v' w3 hown' hgrow))
          go_roundw
          case rel =>
            refine ⟨k + (Utf8.decode s k).2, acc ++ X, by omega, by go_num, hown', hbw.grown hgrow (by omega) (fun j hj => (hown.lt j hj).1), ?_, by simp; omega⟩
            exact Lib.hid (quote_step hp H.out HX.out)
          case measure => simp [intOf]; omega
    · have H2 := Lib.hid (segsAt_end hp)
      go_wp2_with (at_builtin; refine wpList_append_bytes rfl (.tmp 67) (.tmp 68) rfl w.heap.size _ acc rfl (hown.alloc _) ⟨wr.heap.size, 0, none⟩ 1 1 [34] rfl rfl (news_one _ _ _) (by omega) (by simp; omega) ?_)
      intro v' w3 hown' hgrow
      obtain ⟨g, cap, rfl⟩ : ∃ g cap, v' = .slice (some ⟨g, 0, none⟩) (acc ++ [34]).length cap := by
        rcases hown'.2 with ⟨_, h0⟩ | ⟨g, cap, cur, hv, _⟩
        · simp at h0
        · exact ⟨g, cap, hv⟩
      have hb3 := below_append hbw hown hgrow
      have hcv := run_convert_bytes_back (P := Tryd.prog) w3 66 9 5 ⟨g, 0, none⟩ cap (acc ++ [34]) Tryd.underlying66 Tryd.underlying5 Tryd.underlying9 (fun j hj => World.ownsRow.cells hown' (g := g) rfl j _ (by simp only [Lib.byteCells, List.getElem?_map, List.getElem?_eq_getElem hj]; rfl))
      have e : acc ++ [34] = quoteL s.data.toList := by
        have := H.out
        rw [H2.out] at this
        simpa using this
      have HE := Lib.hid e
      obtain ⟨Y, hY⟩ : ∃ Y, Y = acc ++ [34] := ⟨_, rfl⟩
      rw [← hY] at hcv HE hown' ⊢
      clear e hY hown' hgrow
      go_wp2
      go_ret
      rw [← HE.out]
      exact ⟨rfl, hb3⟩
end Go.Proofs.YtponiboiijgllaaDoor
