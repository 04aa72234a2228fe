/- ProbeFinds answers true of any keys and any key. Conditions: none but that what is handed in stands in memory. -/
import Derived.Test.YtpgnknbkedmgfaaWalkJ
import Derived.Laws.AppendOwnNone
namespace Go.Proofs.Ytpgnknbkedmgfaa
open Go.RowKit Go.Op
set_option maxRecDepth 100000

/-- The first place from m on. -/
def wantFrom (ks : List ByteArray) (x : ByteArray) (m : Nat) : Int := if (ks.drop m).findIdx (isK x) < (ks.drop m).length then ((m + (ks.drop m).findIdx (isK x) : Nat) : Int) else -1
theorem wantFrom_end (ks : List ByteArray) (x : ByteArray) : wantFrom ks x ks.length = -1 := by
  unfold wantFrom
  rw [List.drop_length]
  rfl
theorem wantFrom_step {ks : List ByteArray} {x : ByteArray} {m : Nat} (h : m < ks.length) : wantFrom ks x m = if ks[m] = x then (m : Int) else wantFrom ks x (m + 1) := by
  unfold wantFrom
  rw [List.drop_eq_getElem_cons h, List.findIdx_cons]
  by_cases e : ks[m] = x
  · have e2 : isK x ks[m] = true := decide_eq_true e
    rw [if_pos e, e2]
    simp
    omega
  · have e2 : isK x ks[m] = false := decide_eq_false e
    rw [if_neg e, e2]
    simp only [cond_false, List.length_cons, Nat.add_lt_add_iff_right]
    split
    · congr 1
      omega
    · rfl
theorem wantFrom_all (ks : List ByteArray) (x : ByteArray) : wantFrom ks x 0 = wantAt ks x := by
  unfold wantFrom wantAt
  rw [List.drop_zero, Nat.zero_add]
theorem wantFrom_bd (ks : List ByteArray) (x : ByteArray) (m : Nat) : -1 ≤ wantFrom ks x m ∧ wantFrom ks x m ≤ ks.length := by
  unfold wantFrom
  split
  · rename_i h
    rw [List.length_drop] at h
    omega
  · omega

theorem info9 : (Try.prog.info? 9).map (fun i => (i.zero, i.size, i.bytes)) = some (some (.string ⟨#[]⟩), 1, 16) := by kernel_rfl
def strRow (l : List ByteArray) : List Value := l.map Value.string
/-- A row of texts of the call's own. -/
def OwnS (w : World) (base : Nat) (v : Value) (l : List ByteArray) : Prop := w.ownsRow base 9 1 v l.length (strRow l)
theorem OwnS.alloc {w : World} {base : Nat} {v : Value} {l : List ByteArray} (h : OwnS w base v l) (o : Obj) : OwnS (w.alloc o) base v l := World.ownsRow.alloc h o
theorem OwnS.lt {w : World} {base : Nat} {v : Value} {l : List ByteArray} (h : OwnS w base v l) : ∀ k, v.ownBlock = some k → base ≤ k ∧ k < w.heap.size := World.ownsRow.lt h
theorem strs_one (l : List ByteArray) : ∀ u ∈ strRow l, u.oneCell' = true := by
  intro u hu
  simp [strRow] at hu
  obtain ⟨x, _, rfl⟩ := hu
  rfl
theorem wpList_append_strs {ops : Array Oper} {rest : List Oper} {o : Oper} {a : Act} {w : World} {Q : Exit → Act → World → Prop}
    (hg : o.guard = none) (s x : Operand) (hop : o.op = Op.call { callee := Callee.builtin Builtin.append, args := #[s, x], argTypes := #[22, 22] })
    (base : Nat) (v : Value) (l m : List ByteArray) (hs : a.eval s = v) (hown : OwnS w base v l)
    (ad : Option Addr) (c : Nat) (had : ad = none → m = [] ∧ c = 0) (hx : a.eval x = .slice ad m.length c) (hm : m = [] ∨ ∃ b off, ad = some ⟨b, off, none⟩ ∧ ∀ j (hj : j < m.length), w.cell? ⟨b, off + j, none⟩ = some (.string (m[j]'hj)))
    (hb : l.length + m.length ≤ 1000000) (hbase : base ≤ w.heap.size) (hnn : v ≠ .slice none 0 0)
    (hK : ∀ v' w', OwnS w' base v' (l ++ m) → w.grownBy w' v.ownBlock → v' ≠ .slice none 0 0 → wpList Try.prog ops Q rest (a.put o.dst v') w') :
    wpList Try.prog ops Q (o :: rest) a w := by
  obtain ⟨i0, hi, hz0, hz1, hz2⟩ := info_parts info9
  rcases ad with _ | ad
  · obtain ⟨rfl, rfl⟩ := had rfl
    refine wpList_append_own_none hg s x 22 hop base 9 i0 1 Try.underlying22 hi v _ _ hs hown hx ?_
    refine hK v w (by rw [List.append_nil]; exact hown) ?_ hnn
    exact ⟨rfl, rfl, rfl, Nat.le_refl _, fun _ _ _ => rfl⟩
  · refine wpList_append_own w hg s x 22 hop base 9 i0 (.string ⟨#[]⟩) 1 16 Try.underlying22 hi hz0 hz1 hz2 rfl (by decide) v _ _ hs hown ad m.length c (strRow m) hx (by simp [strRow]) ?_ (strs_one m) (by unfold maxLen; omega) (by omega) hbase ?_
    · intro j u hu
      rcases hm with rfl | ⟨b, off, e, hc⟩
      · simp [strRow] at hu
      · obtain rfl := Option.some.inj e
        have hj : j < m.length := by
          have := (List.getElem?_eq_some_iff.1 hu).1
          simpa [strRow] using this
        rw [show (⟨b, off, none⟩ : Addr).add j = ⟨b, off + j, none⟩ by simp [Addr.add], hc j hj]
        simp only [strRow, List.getElem?_map, List.getElem?_eq_getElem hj, Option.map_some] at hu
        exact hu
    · intro v' w' h1 h2 h3
      refine hK v' w' ?_ h2 (fun e => hnn (h3.1 e).1)
      unfold OwnS strRow
      rw [List.map_append, List.length_append]
      exact h1
theorem OwnS.keys {w : World} {base : Nat} {v : Value} {l : List ByteArray} (h : OwnS w base v l) (hn : v ≠ .slice none 0 0) : ∃ g c, v = .slice (some ⟨g, 0, none⟩) l.length c ∧ g < w.heap.size ∧ ∀ j (hj : j < l.length), w.cell? ⟨g, j, none⟩ = some (.string (l[j]'hj)) := by
  rcases h.2 with ⟨rfl, _⟩ | ⟨g, cap, cur, rfl, b, c, d⟩
  · exact absurd rfl hn
  · refine ⟨g, cap, rfl, (Array.getElem?_eq_some_iff.1 c).1, fun j hj => ?_⟩
    have := World.ownsRow.cells h (g := g) rfl j (.string (l[j]'hj)) (by simp [strRow, hj])
    rw [show (⟨g, 0, none⟩ : Addr).add j = ⟨g, j, none⟩ by simp [Addr.add]; rintro rfl; rfl] at this
    exact this

set_option maxHeartbeats 4000000 in
theorem finds_few (a : Option Addr) (ks : List ByteArray) (c : Nat) (k : ByteArray) (w : World) (hK : Keys w a ks) (ha : a = none → ks = [] ∧ c = 0) (hs : ∀ x ∈ ks, x.size ≤ maxLen) (h1 : FewK ks) (h2 : k.size ≤ 40) : Calls Try.prog 4 #[.slice a ks.length c, .string k] w fun e w' => e = .returned (.bool true) ∧ Below w.heap.size w w' := by
  have hfw := fun w' hK' => few_any a ks c w' hK' hs
  rw [fewV_yes h1] at hfw
  have d2 : decide (40 < (k.size : Int)) = false := decide_eq_false (by omega)
  have hb := fun w' hK' => build_any a ks c w' hK' (by have := h1.1; omega) (fun x hx => by have := h1.2 x hx; omega)
  have hlen := build_short h1.1
  have hf := fun g w' x (hx : x.size ≤ 40) (hT : Tab w' g (build ks)) hK' => find_any (some ⟨g, 0, none⟩) (build ks) (build ks).length a ks c x w' hT.nums hK' (build_64 (by have := h1.1; omega)) (by have := h1.1; omega) (by omega) (by omega)
  simp only [place_build, ← wantFrom_all] at hf
  have hlk1 := fun x => looked_build ks x
  have hlk2 := fun x => stop_build ks x
  have hl := h1.1
  have HX : Hid (∀ x ∈ ks ++ [k], x.size ≤ 40) := Lib.hid (fun x hx => by
    rcases List.mem_append.1 hx with h | h
    · exact h1.2 x h
    · rw [List.mem_singleton.1 h]; exact h2)
  have HLk : Hid (∀ x, 1 ≤ looked (build ks) ks x ∧ looked (build ks) ks x ≤ (build ks).length) := Lib.hid (fun x => by rw [hlk1]; have := hlk2 x; omega)
  clear hlk1 hlk2
  generalize build ks = T at hb hf hlen HLk
  have HF := Lib.hid hf
  clear hf
  go_enter Try.func4, Try.ntmps4
  go_wp2_with fail
  refine (awake_any _).mono ?_
  rintro e w1 ⟨rfl, b1⟩
  have s1 := b1.size
  have k1 := hK.below b1
  go_wp2_with fail
  refine (hfw _ k1).mono ?_
  rintro e w2 ⟨rfl, rfl⟩
  go_wp2_with fail
  refine (hb _ k1).mono ?_
  rintro e w3 ⟨g, rfl, hg3, t3, b3⟩
  have s3 := b3.size
  have k3 := k1.below b3
  have b3' := b1.trans (b3.mono (by omega))
  clear b1 b3 k1 hb hfw
  have e0 : OwnS (w3.alloc (.cells #[] 9)) w3.heap.size (.slice (some ⟨w3.heap.size, 0, none⟩) 0 0) [] := World.ownsRow_lit w3 #[] 0 (Nat.le_refl _) (by unfold maxLen; omega) rfl
  have e1 : Below w3.heap.size w3 (w3.alloc (.cells #[] 9)) := (Below.refl _ _).alloc (Nat.le_refl _) _
  have ke : Keys (w3.alloc (.cells #[] 9)) a ks := k3.below e1
  go_wp2_with (at_builtin; refine wpList_append_strs rfl (.tmp 27) (.tmp 28) rfl w3.heap.size _ [] ks rfl e0 a c ha rfl (by rcases ke with h | ⟨b, off, h, _, h3⟩; exact .inl h; exact .inr ⟨b, off, h, h3⟩) (by simp; omega) e1.size (by intro h; cases h) ?_)
  intro v4 w4 o4 g4 n4
  have b4 := e1.grown g4 e1.size (fun q hq => (e0.lt q hq).1)
  have s4 := b4.size
  clear e0 g4 ke e1
  have e5 : Below w4.heap.size w4 (w4.alloc (.cells #[.string k] 9)) := (Below.refl _ _).alloc (Nat.le_refl _) _
  have c5 : ∀ j (hj : j < [k].length), (w4.alloc (.cells #[.string k] 9)).cell? ⟨w4.heap.size, 0 + j, none⟩ = some (.string ([k][j]'hj)) := by
    intro j hj
    obtain rfl : j = 0 := by simpa using hj
    rw [World.cell?_alloc_new]
    rfl
  go_wp2_with (at_builtin; refine wpList_append_strs rfl (.tmp 29) (.tmp 31) rfl w3.heap.size v4 ([] ++ ks) [k] rfl (o4.alloc _) (some ⟨w4.heap.size, 0, none⟩) 1 (fun h => by cases h) rfl (.inr ⟨w4.heap.size, 0, rfl, c5⟩) (by simp; omega) (by simp; omega) n4 ?_)
  intro v5 w5 o5 g5 n5
  have b5 := (b4.trans (e5.mono s4)).grown g5 (by simp; omega) (fun q hq => (o4.lt q hq).1)
  have s5 := b5.size
  obtain ⟨gl, cl, rfl, hgl, hcl⟩ := o5.keys n5
  have hll : (ks ++ [k]).length = ks.length + 1 := by simp
  rw [hll]
  clear o5 g5 n5 o4 n4 c5 e5 b4 hll
  have k5 := k3.below b5
  have t5 := t3.below b5
  have b5' := b3'.trans (b5.mono (by omega))
  have HL0 := Lib.hid hcl
  have HT0 := Lib.hid t5
  have HK0 := Lib.hid k5
  clear hcl t5 k5 k3 t3 hK b3' b5 hs h1
  go_wp2
  go_loopw [7] (fun iv wr => ∃ i : Nat, i ≤ ks.length + 1 ∧ iv = .int .i64 (i : Int) ∧ Below w5.heap.size w5 wr) (fun iv _ => ks.length + 1 - (intOf iv).toNat)
  case atStart => exact ⟨0, by omega, rfl, Below.refl _ _⟩
  case round =>
    obtain ⟨i, hi, rfl, hbr⟩ := hrel
    obtain ⟨wo, hwo⟩ : ∃ wo, wo = wr := ⟨_, rfl⟩
    subst hwo
    have so := hbr.size
    by_cases h3 : i < ks.length + 1
    · have i1 : (i : Int) < (ks.length : Int) + 1 := by omega
      have hi2 : i < (ks ++ [k]).length := by simp; omega
      have hxs := HX.out _ (List.getElem_mem hi2)
      have hxc : wo.cell? ⟨gl, i, none⟩ = some (.string (ks ++ [k])[i]) := by
        rw [hbr.cell (p := ⟨gl, i, none⟩) hgl]
        exact HL0.out i hi2
      generalize (ks ++ [k])[i] = x at hxs hxc
      have HWe := Lib.hid (wantFrom_end ks x)
      have HWs := Lib.hid (fun m (h : m < ks.length) => wantFrom_step (x := x) h)
      have HLx := Lib.hid (HLk.out x)
      go_wp2
      go_loopw [8, 9] (fun wv jv wr => ∃ (m : Nat) (z : Int), m ≤ ks.length ∧ z = (m : Int) - 1 ∧ jv = .int .i64 z ∧ wv = .int .i64 (wantFrom ks x m) ∧ Below wo.heap.size wo wr) (fun _ jv _ => (intOf jv + 1).toNat)
      case atStart => exact ⟨ks.length, _, by omega, rfl, rfl, by rw [HWe.out], Below.refl _ _⟩
      case round =>
        obtain ⟨m, z, hm, hz, rfl, rfl, hbi⟩ := hrel
        have si := hbi.size
        by_cases h4 : m = 0
        · subst h4
          have i2 : ¬ (0 : Int) ≤ z := by omega
          have i3 : z < 0 := by omega
          have ti := (HT0.out.below hbr).below hbi
          have ki := (HK0.out.below hbr).below hbi
          have hxi : wr.cell? ⟨gl, i, none⟩ = some (.string x) := by
            rw [hbi.cell (p := ⟨gl, i, none⟩) (by show gl < wo.heap.size; omega)]
            exact hxc
          have hff := HF.out g _ x hxs ti ki
          have hl1 := HLx.out.1
          have hl2 := HLx.out.2
          generalize looked T ks x = L at hff hl1 hl2
          have d5 : decide ((L : Int) < 1) = false := decide_eq_false (by omega)
          have d6 : decide ((T.length : Int) < (L : Int)) = false := decide_eq_false (by omega)
          have hbw := hbr.trans (hbi.mono so)
          clear hxc ti ki hz
          generalize wantFrom ks x 0 = W at hff
          go_wp2_with fail
          refine hff.mono ?_
          rintro e w9 ⟨rfl, rfl⟩
          go_wp2
          go_roundw
          case rel => exact ⟨i + 1, by omega, by go_num, hbw⟩
          case measure => simp [intOf]; omega
        · obtain ⟨q, rfl⟩ : ∃ q, m = q + 1 := ⟨m - 1, by omega⟩
          obtain rfl : z = (q : Int) := by omega
          have hq : q < ks.length := by omega
          have i2 : (0 : Int) ≤ (q : Int) := by omega
          have i3 : (q : Int) < (ks.length : Int) := by omega
          have ki := (HK0.out.below hbr).below hbi
          have hxi : wr.cell? ⟨gl, i, none⟩ = some (.string x) := by
            rw [hbi.cell (p := ⟨gl, i, none⟩) (by show gl < wo.heap.size; omega)]
            exact hxc
          have hkc : ∃ g2 off2, a = some ⟨g2, off2, none⟩ ∧ wr.cell? ⟨g2, off2 + q, none⟩ = some (.string ks[q]) := by
            rcases ki with h0 | ⟨g2, off2, rfl, _, hc⟩
            · rw [h0] at hq; simp at hq
            · exact ⟨g2, off2, rfl, hc q hq⟩
          obtain ⟨g2, off2, rfl, hkcell⟩ := hkc
          have HW1 := HWs.out q hq
          generalize ks[q] = y at hkcell HW1
          have HZ := Lib.hid hz
          clear hz hxc ki
          by_cases h5 : y = x
          · have HW2 : Hid (wantFrom ks x q = (q : Int)) := Lib.hid (by rw [HW1, if_pos h5])
            have e5 : (y.toList == x.toList) = true := by rw [same_text, decide_eq_true h5]
            clear HW1
            subst h5
            go_wp2
            go_quiet (fail)
            go_wp2
            go_roundw
            case rel => exact ⟨q, _, by omega, rfl, by go_num, by rw [HW2.out], below_drawn hbi _⟩
            case measure => simp [intOf]
          · have HW2 : Hid (wantFrom ks x q = wantFrom ks x (q + 1)) := Lib.hid (by rw [HW1, if_neg h5])
            have e5 : (y.toList == x.toList) = false := by rw [same_text, decide_eq_false h5]
            clear HW1
            go_wp2
            go_quiet (fail)
            go_wp2
            go_roundw
            case rel => exact ⟨q, _, by omega, rfl, by go_num, by rw [HW2.out], below_drawn hbi _⟩
            case measure => simp [intOf]
    · have i1 : ¬ (i : Int) < (ks.length : Int) + 1 := by omega
      go_wp2
      go_ret
      exact ⟨rfl, b5'.trans (hbr.mono (by omega))⟩

set_option maxHeartbeats 1000000 in
theorem findsLaw_any (a : Option Addr) (ks : List ByteArray) (c : Nat) (k : ByteArray) (w : World) (hK : Keys w a ks) (ha : a = none → ks = [] ∧ c = 0) (hs : ∀ x ∈ ks, x.size ≤ maxLen) (hk : k.size ≤ maxLen) : Calls Try.prog 4 #[.slice a ks.length c, .string k] w fun e w' => e = .returned (.bool true) ∧ Below w.heap.size w w' := by
  have hfw := fun w' hK' => few_any a ks c w' hK' hs
  by_cases h1 : FewK ks
  · rw [fewV_yes h1] at hfw
    by_cases h2 : k.size ≤ 40
    · exact finds_few a ks c k w hK ha hs h1 h2
    · unfold maxLen at hk
      have d2 : decide (40 < (k.size : Int)) = true := decide_eq_true (by omega)
      go_enter Try.func4, Try.ntmps4
      go_wp2_with fail
      refine (awake_any _).mono ?_
      rintro e w1 ⟨rfl, b1⟩
      have s1 := b1.size
      go_wp2_with fail
      refine (hfw _ (hK.below b1)).mono ?_
      rintro e w2 ⟨rfl, rfl⟩
      go_wp2_with fail
      refine (awake_any _).mono ?_
      rintro e w3 ⟨rfl, b3⟩
      go_wp2
      go_ret
      exact ⟨rfl, b1.trans (b3.mono (by omega))⟩
  · rw [fewV_no h1] at hfw
    unfold maxLen at hk
    go_enter Try.func4, Try.ntmps4
    go_wp2_with fail
    refine (awake_any _).mono ?_
    rintro e w1 ⟨rfl, b1⟩
    have s1 := b1.size
    go_wp2_with fail
    refine (hfw _ (hK.below b1)).mono ?_
    rintro e w2 ⟨rfl, rfl⟩
    go_wp2_with fail
    refine (awake_any _).mono ?_
    rintro e w3 ⟨rfl, b3⟩
    go_wp2
    go_ret
    exact ⟨rfl, b1.trans (b3.mono (by omega))⟩
end Go.Proofs.Ytpgnknbkedmgfaa
