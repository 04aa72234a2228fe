/- What rev.changed makes of entries and changes: a row of the call's own. Conditions: at most 1000 of each, which stand in memory. -/
import Derived.Test.YtkapjijppjfmkaaEWalkL
import Derived.Maps.AppendAt
import Derived.Deep.DrawnRows
namespace Go.Proofs.Ytkapjijppjfmkaa
open Go.RowKit Go.Op
set_option maxRecDepth 100000
attribute [local go_sem ↓] Go.wp_at_zero Go.wp_at_succ

theorem append_ents_at {o : Oper} {a : Act} {w : World} {K : Act → World → Prop} {Q : Exit → Act → World → Prop} (s x : Operand)
    (hop : o.op = Op.call { callee := Callee.builtin Builtin.append, args := #[s, x], argTypes := #[38, 38] })
    (base : Nat) (v : Value) (l m : List En) (hs : a.eval s = v) (hown : OwnE 72 w base v l)
    (ad : Addr) (c : Nat) (hx : a.eval x = .slice (some ad) m.length c) (hm : ∀ j u, (enRow m)[j]? = some u → w.cell? (ad.add j) = some u)
    (hb : l.length + m.length ≤ 100000000) (hbase : base ≤ w.heap.size)
    (hK : ∀ v' w', OwnE 72 w' base v' (l ++ m) → w.grownBy w' v.ownBlock → (v'.ownBlock = v.ownBlock ∨ v'.ownBlock = some w.heap.size) → K (a.put o.dst v') w') :
    Oper.wp Try.prog o a w K Q := by
  obtain ⟨i0, hi, hz0, hz1, hz2⟩ := info_parts info72
  obtain ⟨v', w', hr, h2, h3, h4, h5⟩ := run_append_own_at (P := Try.prog) w base 38 o.type 72 i0 _ 3 40 Try.underlying38 hi hz0 hz1 hz2 rfl (by decide) v _ _ hown ad m.length c (enRow m) (enRow_length m) hm en_one (by unfold maxLen; omega) (by omega) hbase
  unfold Oper.wp execOp
  simp only [hop, resolve, invoke, builtin, Sem.run_bind, Sem.run_pure, Result.andThen_ok, List.map_toArray, List.map_cons, List.map_nil, hs, hx, hr]
  refine hK v' w' ?_ h3 h5
  unfold OwnE
  rw [enRow_append, List.length_append]
  exact h2
theorem wpList_append_at {ops : Array Oper} {rest : List Oper} {o : Oper} {a : Act} {w : World} {Q : Exit → Act → World → Prop} (hg : o.guard = none) (s x : Operand)
    (hop : o.op = Op.call { callee := Callee.builtin Builtin.append, args := #[s, x], argTypes := #[38, 38] })
    (base : Nat) (v : Value) (l m : List En) (hs : a.eval s = v) (hown : OwnE 72 w base v l)
    (ad : Addr) (c : Nat) (hx : a.eval x = .slice (some ad) m.length c) (hm : ∀ j u, (enRow m)[j]? = some u → w.cell? (ad.add j) = some u)
    (hb : l.length + m.length ≤ 100000000) (hbase : base ≤ w.heap.size)
    (hK : ∀ v' w', OwnE 72 w' base v' (l ++ m) → w.grownBy w' v.ownBlock → (v'.ownBlock = v.ownBlock ∨ v'.ownBlock = some w.heap.size) → wpList Try.prog ops Q rest (a.put o.dst v') w') :
    wpList Try.prog ops Q (o :: rest) a w :=
  wpList_plain hg fun _ h => append_ents_at s x hop base v l m hs hown ad c hx hm hb hbase fun v' w' h1 h2 h3 => h _ _ (hK v' w' h1 h2 h3)
theorem step_append_at {ops : Array Oper} {o : Oper} {a : Act} {w : World} {K : Act → World → Prop} {Q : Exit → Act → World → Prop} {E : Prop} (hg : o.guard = none) (s x : Operand)
    (hop : o.op = Op.call { callee := Callee.builtin Builtin.append, args := #[s, x], argTypes := #[38, 38] })
    (base : Nat) (v : Value) (l m : List En) (hs : a.eval s = v) (hown : OwnE 72 w base v l)
    (ad : Addr) (c : Nat) (hx : a.eval x = .slice (some ad) m.length c) (hm : ∀ j u, (enRow m)[j]? = some u → w.cell? (ad.add j) = some u)
    (hb : l.length + m.length ≤ 100000000) (hbase : base ≤ w.heap.size)
    (hK : ∀ v' w', OwnE 72 w' base v' (l ++ m) → w.grownBy w' v.ownBlock → (v'.ownBlock = v.ownBlock ∨ v'.ownBlock = some w.heap.size) → K (a.put o.dst v') w') :
    if Region.wanted o (yielded ops a.tmps) = true then Oper.wp Try.prog o a w K Q else E := by
  rw [if_pos (by simp [Region.wanted, hg])]
  exact append_ents_at s x hop base v l m hs hown ad c hx hm hb hbase hK
theorem merge_head {c e : En} {r : List En} (h : lt e.key c.key = true) : (e :: r).takeWhile (before c.key) = e :: r.takeWhile (before c.key) ∧ past c.key (e :: r) = past c.key r := by
  have hb : before c.key e = true := h
  unfold past
  rw [List.takeWhile_cons, List.dropWhile_cons, if_pos hb, if_pos hb]
  exact ⟨rfl, rfl⟩
theorem merge_stop {c e : En} {r : List En} (h : lt e.key c.key = false) : (e :: r).takeWhile (before c.key) = [] ∧ past c.key (e :: r) = if e.key = c.key then r else e :: r := by
  have hb : ¬ before c.key e = true := by unfold before; rw [h]; simp
  unfold past
  rw [List.takeWhile_cons, List.dropWhile_cons, if_neg hb, if_neg hb]
  exact ⟨rfl, rfl⟩
theorem at_38_0 (b o n c : Nat) (h : 0 < n) (w : World) : (Instr.indexAt 38 (.slice (some ⟨b, o, none⟩) n c) (.int .i64 0)).run Try.prog w = .ok (.pointer (some ⟨b, o, none⟩)) w := by
  have := at_38 b o n c 0 h w
  simpa using this
theorem made_room (w : World) (n m : Nat) (hn : n ≤ 1000) (hm : m ≤ 1000) : ∃ W, (Instr.makeSlice 38 (.int .i64 0) (.int .i64 ((n : Int) + (m : Int)))).run Try.prog w = .ok (.slice (some ⟨w.heap.size, 0, none⟩) 0 (n + m)) W ∧ Hid (OwnE 72 W w.heap.size (.slice (some ⟨w.heap.size, 0, none⟩) 0 (n + m)) []) ∧ Hid (Below w.heap.size w W) ∧ w.heap.size < W.heap.size := by
  obtain ⟨i0, hi, hz0, hz1, hz2⟩ := info_parts info72
  have hr := run_make (P := Try.prog) w 38 72 i0 _ Try.underlying38 hi hz0 .i64 .i64 0 ((n : Int) + (m : Int)) (by omega) (by omega) (by rw [hz2]; omega) (by omega)
  have e : ((n : Int) + (m : Int)).toNat = n + m := by omega
  rw [e, hz1] at hr
  refine ⟨_, hr, Lib.hid ?_, Lib.hid ((Below.refl _ _).alloc (Nat.le_refl _) _), by simp⟩
  exact World.ownsRow_made w _ (n + m) (Nat.le_refl _) (by unfold maxLen; omega) (by simp [madeCells])

def sliceLen : Value → Nat
  | .slice _ n _ => n
  | _ => 0
theorem EnAt.grown {w w' : World} {b o : Nat} {e : En} {row : Option Nat} (h : EnAt w b o e) (hg : w.grownBy w' row) (hlt : b < w.heap.size) (hne : some b ≠ row) : EnAt w' b o e := by
  have hb := hg.block b hlt hne
  exact ⟨by rw [World.cell?_of_block (w := w) hb]; exact h.1, by rw [World.cell?_of_block (w := w) hb]; exact h.2.1, by rw [World.cell?_of_block (w := w) hb]; exact h.2.2⟩
theorem ents_tail {w : World} {b o : Nat} {e : En} {r : List En} (h : Ents w (some ⟨b, o, none⟩) (e :: r)) : Ents w (some ⟨b, o + 3, none⟩) r := by
  rcases h with h | ⟨b', o', h1, h2, h3⟩
  · cases h
  · cases h1
    exact .inr ⟨b, o + 3, rfl, h2, fun k hk => by
      have := h3 (k + 1) (by simpa using hk)
      rw [List.getElem_cons_succ] at this
      rwa [show o + 3 + k * 3 = o + (k + 1) * 3 by omega]⟩

set_option maxHeartbeats 8000000 in
theorem changed_any (ad0 : Addr) (l : List En) (c0 : Nat) (bm : Option Addr) (m : List En) (c1 : Nat) (w : World) (hl : l.length ≤ 1000) (hm : m.length ≤ 1000) (hc0 : l.length ≤ c0) (hL : Ents w (some ad0) l) (hE : Ents w bm m) :
    Calls Try.prog 43 #[.slice (some ad0) l.length c0, .slice bm m.length c1] w fun e w' => ∃ v, e = .returned v ∧ OwnE 72 w' w.heap.size v (mergeL l m) ∧ Below w.heap.size w w' := by
  have HE := Lib.hid hE
  have HL := Lib.hid hL
  obtain ⟨T, hT⟩ : ∃ T, T = mergeL l m := ⟨_, rfl⟩
  rw [← hT]
  have HT := Lib.hid hT
  obtain ⟨W, hmk, hoW, hbW, hsW⟩ := made_room w l.length m.length hl hm
  clear hE hL hT
  go_enter Try.func43, Try.ntmps43
  go_wp2
  go_loopw [0, 5, 16] (fun lv ov iv wr => ∃ (j n cp : Nat) (ad : Addr) (acc rest : List En), iv = .int .i64 (j : Int) ∧ lv = .slice (some ad) n cp ∧ j ≤ m.length ∧ rest.length = n ∧ n ≤ cp ∧ acc.length + n ≤ l.length + j ∧ w.heap.size < wr.heap.size ∧ Hid (Ents w (some ad) rest) ∧ Hid (OwnE 72 wr w.heap.size ov acc) ∧ Hid (Below w.heap.size w wr) ∧ Hid (acc ++ mergeL rest (m.drop j) = T)) (fun _ _ iv _ => m.length - (intOf iv).toNat)
  case atStart => exact ⟨0, l.length, c0, ad0, [], l, rfl, rfl, by omega, rfl, hc0, by simp, hsW, HL, hoW, hbW, Lib.hid HT.out.symm⟩
  case round =>
    obtain ⟨j, n, cp, ad, acc, rest, rfl, rfl, hjm, hrn, hncp, hbd, hsz, HR, HO, HB, HQ⟩ := hrel
    obtain ⟨wo, hwo⟩ : ∃ wo, wo = wr := ⟨_, rfl⟩
    subst hwo
    by_cases h1 : j < m.length
    · have i1 : (j : Int) < (m.length : Int) := by omega
      obtain ⟨mb, mo, rfl, hmb, hc⟩ := HE.out.at h1
      have hc2 := hc.below HB.out hmb
      have HQ2 : Hid (acc ++ (rest.takeWhile (before m[j].key) ++ m[j] :: mergeL (past m[j].key rest) (m.drop (j + 1))) = T) := Lib.hid (by
        have := HQ.out
        rw [List.drop_eq_getElem_cons h1] at this
        exact this)
      clear hc HQ
      generalize m[j] = x at hc2 HQ2
      obtain ⟨k, v, gn⟩ := x
      obtain ⟨c1', c2, c3⟩ := hc2
      simp only at c1' c2 c3
      have HC0 : Hid (EnAt (wo.alloc (.cells #[.string k, .string v, .bool gn] 72)) wo.heap.size 0 ⟨k, v, gn⟩) := Lib.hid ⟨by simp [go_sem], by simp [go_sem], by simp [go_sem]⟩
      have HOn : Hid (∀ q, u5.ownBlock = some q → q ≠ wo.heap.size) := Lib.hid (fun q hq => by have := (HO.out.lt q hq).2; omega)
      have HO1 := Lib.hid (HO.out.alloc (.cells #[.string k, .string v, .bool gn] 72))
      have HB1 := Lib.hid (HB.out.alloc (by omega) (.cells #[.string k, .string v, .bool gn] 72))
      clear HO HB
      go_wp2
      go_loopw [0, 5] (fun lv ov wr => ∃ (n cp : Nat) (ad : Addr) (acc rest : List En), lv = .slice (some ad) n cp ∧ rest.length = n ∧ n ≤ cp ∧ acc.length + n ≤ l.length + j ∧ wo.heap.size < wr.heap.size ∧ Hid (Ents w (some ad) rest) ∧ Hid (OwnE 72 wr w.heap.size ov acc) ∧ Hid (∀ q, ov.ownBlock = some q → q ≠ wo.heap.size) ∧ Hid (Below w.heap.size w wr) ∧ Hid (EnAt wr wo.heap.size 0 ⟨k, v, gn⟩) ∧ Hid (acc ++ (rest.takeWhile (before k) ++ ⟨k, v, gn⟩ :: mergeL (past k rest) (m.drop (j + 1))) = T)) (fun lv _ _ => sliceLen lv)
      case atStart => exact ⟨n, cp, ad, acc, rest, rfl, hrn, hncp, hbd, by simp, HR, HO1, HOn, HB1, HC0, HQ2⟩
      case round =>
        clear hrn hncp hbd HR HO1 HOn HB1 HC0 HQ2 c1' c2 c3
        obtain ⟨n, cp, ad, acc, rest, rfl, hrn, hncp, hbd, hcw, HR, HO, HOn, HB, HC, HQ⟩ := hrel
        have hcS := HC.out
        cases rest with
        | nil =>
          obtain rfl : 0 = n := hrn
          have HOwr := HO
          have HBwr := HB
          have HCwr := HC
          clear HO HB HC
          have hwz := HBwr.out.size
          have HQs : Hid (acc ++ ⟨k, v, gn⟩ :: mergeL [] (m.drop (j + 1)) = T) := Lib.hid HQ.out
          go_wp2_with fail
          refine Free.region_puts (S := fun w' => EnAt w' wo.heap.size 0 ⟨k, v, gn⟩) (B0 := wr.heap.size) (w0 := wr.drew) (om := fun _ => 0) (olds := [])
            (tab := [(1, .gen [.slice (some ad) 0 cp] (.int .i64 ((0 : Nat) : Int))),
              (2, .cmp .gtr 3 (.int .i64 ((0 : Nat) : Int)) (.int .i64 0) (.bool false))])
            (by kernel_rfl) ⟨by kernel_rfl, ⟨gen_len _ rfl rfl (len_38 _ _ _), fun xo yo w => cmp_gtr3 xo yo w (by simp), trivial⟩,
              fun β => by kernel_rfl, fun β => by kernel_rfl, fun β => by kernel_rfl, by kernel_rfl, (fun w1 w2 h hb => h.below hb (by omega)), Nat.le_refl _, fun _ _ h => (by cases h), fun _ _ _ _ h => (by cases h)⟩
            hcS rfl (fun _ _ h => (by cases h)) (fun _ => Free.from_ 20 [.slice (some ad) 0 cp, .int .i64 ((0 : Nat) : Int), .bool false, .bool false, undef, undef, undef, undef, undef, undef, undef, .bool false]) (fun β => by kernel_rfl) ?_
          intro β w4 _ hz b _ _ _
          rw [drew_size] at hz
          have hbw4 := Lib.hid (Below.trans (drew_below (Below.refl wr.heap.size wr)) b)
          clear b
          rw [Free.puts_from _ _ _ (Nat.le_of_ble_eq_true rfl)]
          simp only [List.take_succ_cons, List.take_zero, List.drop_succ_cons, List.drop_zero, List.cons_append, List.nil_append, List.length_cons, List.length_nil, Nat.reduceAdd]
          have HOw4 := Lib.hid (HOwr.out.below hbw4.out)
          have HBw4 := Lib.hid (HBwr.out.trans (hbw4.out.mono (by omega)))
          have HCw4 := Lib.hid (HCwr.out.below hbw4.out (by omega))
          clear HOwr HBwr HCwr
          go_wp2_with fail
          replace hcS := HCw4.out
          refine Free.region_puts (S := fun w' => EnAt w' wo.heap.size 0 ⟨k, v, gn⟩) (B0 := w4.heap.size) (w0 := w4.drew) (om := fun _ => 0) (olds := [])
            (tab := [(1, .gen [.slice (some ad) 0 cp] (.int .i64 ((0 : Nat) : Int))),
              (2, .cmp .gtr 3 (.int .i64 ((0 : Nat) : Int)) (.int .i64 0) (.bool false))])
            (by kernel_rfl) ⟨by kernel_rfl, ⟨gen_len _ rfl rfl (len_38 _ _ _), fun xo yo w => cmp_gtr3 xo yo w (by simp), trivial⟩,
              fun β => by kernel_rfl, fun β => by kernel_rfl, fun β => by kernel_rfl, by kernel_rfl, (fun w1 w2 h hb => h.below hb (by omega)), Nat.le_refl _, fun _ _ h => (by cases h), fun _ _ _ _ h => (by cases h)⟩
            hcS rfl (fun _ _ h => (by cases h)) (fun _ => Free.from_ 40 [.slice (some ad) 0 cp, .int .i64 ((0 : Nat) : Int), .bool false, .bool false, undef, undef, undef, undef, undef, undef, undef, .bool false]) (fun β => by kernel_rfl) ?_
          intro β w6 _ hz b _ _ _
          rw [drew_size] at hz
          have hbw6 := Lib.hid (Below.trans (drew_below (Below.refl w4.heap.size w4)) b)
          clear b
          rw [Free.puts_from _ _ _ (Nat.le_of_ble_eq_true rfl)]
          simp only [List.take_succ_cons, List.take_zero, List.drop_succ_cons, List.drop_zero, List.cons_append, List.nil_append, List.length_cons, List.length_nil, Nat.reduceAdd]
          have HOw6 := Lib.hid (HOw4.out.below hbw6.out)
          have HBw6 := Lib.hid (HBw4.out.trans (hbw6.out.mono (by omega)))
          have HCw6 := Lib.hid (HCw4.out.below hbw6.out (by omega))
          clear HOw4 HBw4 HCw4
          obtain ⟨z1, z2, z3⟩ := HCw6.out
          simp only [Nat.zero_add] at z1 z2 z3
          go_wp2_with (at_builtin; refine wpList_append_at rfl (.tmp 54) (.tmp 56) rfl w.heap.size u5 acc [⟨k, v, gn⟩] rfl (HOw6.out.alloc _) ⟨w6.heap.size, 0, none⟩ 1 rfl (cells_new w6 ⟨k, v, gn⟩ 72) (by simp; omega) (by simp; omega) ?_; intro v7 w7 hown hgrow _)
          have hz7 := hgrow.size
          simp at hz7
          have HO7 := Lib.hid hown
          have HB7 := Lib.hid (below_grown (HBw6.out.alloc (by omega) _) (HOw6.out.alloc _) hgrow (by simp; omega))
          clear hown hgrow z1 z2 z3
          go_wp2
          go_roundw
          case rel => exact ⟨j + 1, 0, cp, ad, acc ++ [⟨k, v, gn⟩], [], by go_num, rfl, by omega, rfl, by omega, by simp; omega, by omega, Lib.hid (.inl rfl), HO7, HB7, Lib.hid (by rw [List.append_assoc]; exact HQs.out)⟩
          case measure => simp [intOf]; omega
        | cons e r =>
          obtain ⟨n, rfl⟩ : ∃ n', n = n' + 1 := ⟨r.length, by rw [← hrn]; rfl⟩
          have hrn2 : r.length = n := by simpa using hrn
          obtain ⟨rb, ro, h9, hrb, hr9⟩ := HR.out.at (k := 0) (by simp)
          cases h9
          have hrS : EnAt wr rb ro e := by simpa using hr9.below HB.out hrb
          have HR2 : Hid (Ents w (some ⟨rb, ro + 3, none⟩) r) := Lib.hid (ents_tail HR.out)
          have hwz := HB.out.size
          clear hr9
          have HMh := Lib.hid (fun h => merge_head (c := ⟨k, v, gn⟩) (e := e) (r := r) h)
          have HMs := Lib.hid (fun h => merge_stop (c := ⟨k, v, gn⟩) (e := e) (r := r) h)
          obtain ⟨rk, rv, rg⟩ := e
          cases hlt : lt rk k with
          | true =>
            have HOwr := HO
            have HBwr := HB
            have HCwr := HC
            clear HO HB HC
            have HQn : Hid ((acc ++ [⟨rk, rv, rg⟩]) ++ (r.takeWhile (before k) ++ ⟨k, v, gn⟩ :: mergeL (past k r) (m.drop (j + 1))) = T) := Lib.hid (by
              have h5 := HMh.out hlt
              have h6 := HQ.out
              rw [h5.1, h5.2] at h6
              rw [← h6]
              simp)
            have HRr := Lib.hid hrS
            go_wp2_with fail
            refine Free.region_puts (S := fun w' => (EnAt w' wo.heap.size 0 ⟨k, v, gn⟩) ∧ EnAt w' rb ro ⟨rk, rv, rg⟩) (B0 := wr.heap.size) (w0 := wr.drew) (om := fun _ => 0) (olds := [])
              (tab := [(1, .gen [.slice (some ⟨rb, ro, none⟩) (n + 1) cp] (.int .i64 ((n + 1 : Nat) : Int))),
                (2, .cmp .gtr 3 (.int .i64 ((n + 1 : Nat) : Int)) (.int .i64 0) (.bool true)),
                (5, .gen [.slice (some ⟨rb, ro, none⟩) (n + 1) cp, .int .i64 0] (.pointer (some ⟨rb, ro, none⟩))),
                (7, .load 9 ⟨rb, ro, none⟩ (.string rk)),
                (9, .load 9 ⟨wo.heap.size, 0, none⟩ (.string k)),
                (10, .cmp .lss 9 (.string rk) (.string k) (.bool true))])
              (by kernel_rfl) ⟨by kernel_rfl, ⟨gen_len _ rfl rfl (len_38 _ _ _), fun xo yo w => cmp_gtr3 xo yo w (decide_eq_true (by omega)), gen_at _ rfl rfl (fun w => at_38_0 _ _ _ _ (Nat.succ_pos _) w), fun _ h => load_9 h.2.1, fun _ h => load_9 h.1.1, fun xo yo w => cmp_lss9 xo yo w hlt, trivial⟩,
                fun β => by kernel_rfl, fun β => by kernel_rfl, fun β => by kernel_rfl, by kernel_rfl, (fun w1 w2 h hb => ⟨h.1.below hb (by omega), h.2.below hb (by omega)⟩), Nat.le_refl _, fun _ _ h => (by cases h), fun _ _ _ _ h => (by cases h)⟩
              ⟨hcS, hrS⟩ rfl (fun _ _ h => (by cases h)) (fun _ => Free.from_ 20 [.slice (some ⟨rb, ro, none⟩) (n + 1) cp, .int .i64 ((n + 1 : Nat) : Int), .bool true, .bool true, .slice (some ⟨rb, ro, none⟩) (n + 1) cp, .pointer (some ⟨rb, ro, none⟩), .pointer (some ⟨rb, ro, none⟩), .string rk, .pointer (some ⟨wo.heap.size, 0, none⟩), .string k, .bool true, .bool true]) (fun β => by kernel_rfl) ?_
            intro β w4 _ hz b _ _ _
            rw [drew_size] at hz
            have hbw4 := Lib.hid (Below.trans (drew_below (Below.refl wr.heap.size wr)) b)
            clear b
            rw [Free.puts_from _ _ _ (Nat.le_of_ble_eq_true rfl)]
            simp only [List.take_succ_cons, List.take_zero, List.drop_succ_cons, List.drop_zero, List.cons_append, List.nil_append, List.length_cons, List.length_nil, Nat.reduceAdd]
            have HOw4 := Lib.hid (HOwr.out.below hbw4.out)
            have HBw4 := Lib.hid (HBwr.out.trans (hbw4.out.mono (by omega)))
            have HCw4 := Lib.hid (HCwr.out.below hbw4.out (by omega))
            clear HOwr HBwr HCwr
            obtain ⟨d1, d2, d3⟩ := HRr.out.below hbw4.out (by omega)
            simp only at d1 d2 d3
            go_wp2_with fail
            by_cases hcp : cp = 1
            · obtain rfl : n = 0 := by omega
              subst hcp
              go_region_law (refine step_append_at rfl (.tmp 32) (.tmp 36) rfl w.heap.size u5 acc [⟨rk, rv, rg⟩] (by simp [Act.eval]) (HOw4.out.alloc _) ⟨w4.heap.size, 0, none⟩ 1 (by simp [Act.eval]) (cells_new w4 ⟨rk, rv, rg⟩ 72) (by simp; omega) (by simp; omega) ?_; intro v6 w6 hown hgrow hat)
              all_goals
                have hz6 := hgrow.size
                simp at hz6
                have HO6 := Lib.hid hown
                have HB6 := Lib.hid (below_grown (drew_below (HBw4.out.alloc (by omega) _)) (HOw4.out.alloc _) hgrow (by simp; omega))
                have HC6 : Hid (EnAt w6 wo.heap.size 0 ⟨k, v, gn⟩) := Lib.hid (by
                  refine EnAt.grown (EnAt.below HCw4.out (drew_below ((Below.refl w4.heap.size w4).alloc (Nat.le_refl _) _)) (by omega)) hgrow (by simp; omega) ?_
                  intro h9
                  exact HOn.out _ h9.symm rfl)
                have HOn6 : Hid (∀ q, v6.ownBlock = some q → q ≠ wo.heap.size) := Lib.hid (fun q hq => by
                  rcases hat with h9 | h9
                  · exact HOn.out q (by rw [← h9]; exact hq)
                  · rw [hq] at h9; simp at h9; omega)
                clear hown hgrow hat d1 d2 d3
                simp only [List.getElem_toArray, List.getElem_cons_succ, List.getElem_cons_zero, Act.put, List.setIfInBounds_toArray, List.set_cons_succ, List.set_cons_zero]
                go_wp2
                go_roundw
                case rel =>
                  exact ⟨0, 0, ⟨rb, ro, none⟩, acc ++ [⟨rk, rv, rg⟩], r, rfl, hrn2, by omega, by simp; omega, by omega, Lib.hid (.inl (List.eq_nil_of_length_eq_zero hrn2)), HO6, HOn6, HB6, HC6, HQn⟩
                case measure => simp [sliceLen]
            · have i2 : (1 : Int) ≤ (cp : Int) := by omega
              have i3 : ((n : Int) + 1) ≤ (cp : Int) := by omega
              have i4 : ¬ cp - 1 = 0 := by omega
              have i5 : (1 : Int) ≤ (n : Int) + 1 := by omega
              go_region_law (refine step_append_at rfl (.tmp 32) (.tmp 36) rfl w.heap.size u5 acc [⟨rk, rv, rg⟩] (by simp [Act.eval]) (HOw4.out.alloc _) ⟨w4.heap.size, 0, none⟩ 1 (by simp [Act.eval]) (cells_new w4 ⟨rk, rv, rg⟩ 72) (by simp; omega) (by simp; omega) ?_; intro v6 w6 hown hgrow hat)
              all_goals
                have hz6 := hgrow.size
                simp at hz6
                have HO6 := Lib.hid hown
                have HB6 := Lib.hid (below_grown (drew_below (HBw4.out.alloc (by omega) _)) (HOw4.out.alloc _) hgrow (by simp; omega))
                have HC6 : Hid (EnAt w6 wo.heap.size 0 ⟨k, v, gn⟩) := Lib.hid (by
                  refine EnAt.grown (EnAt.below HCw4.out (drew_below ((Below.refl w4.heap.size w4).alloc (Nat.le_refl _) _)) (by omega)) hgrow (by simp; omega) ?_
                  intro h9
                  exact HOn.out _ h9.symm rfl)
                have HOn6 : Hid (∀ q, v6.ownBlock = some q → q ≠ wo.heap.size) := Lib.hid (fun q hq => by
                  rcases hat with h9 | h9
                  · exact HOn.out q (by rw [← h9]; exact hq)
                  · rw [hq] at h9; simp at h9; omega)
                clear hown hgrow hat d1 d2 d3
                simp only [List.getElem_toArray, List.getElem_cons_succ, List.getElem_cons_zero, Act.put, List.setIfInBounds_toArray, List.set_cons_succ, List.set_cons_zero]
                go_wp2
                go_roundw
                case rel =>
                  exact ⟨n, cp - 1, ⟨rb, ro + 3, none⟩, acc ++ [⟨rk, rv, rg⟩], r, rfl, hrn2, by omega, by simp; omega, by omega, HR2, HO6, HOn6, HB6, HC6, HQn⟩
                case measure => simp [sliceLen]
          | false =>
            have HQs : Hid (acc ++ ⟨k, v, gn⟩ :: mergeL (if rk = k then r else ⟨rk, rv, rg⟩ :: r) (m.drop (j + 1)) = T) := Lib.hid (by
              have h5 := HMs.out hlt
              have h6 := HQ.out
              rw [h5.1] at h6
              rw [h5.2] at h6
              exact h6)
            by_cases hkk : rk = k
            · have heq : decide (rk = k) = true := decide_eq_true hkk
              rw [if_pos hkk] at HQs
              clear hkk
              have HOwr := HO
              have HBwr := HB
              have HCwr := HC
              have HRr := Lib.hid hrS
              clear HO HB HC
              go_wp2_with fail
              refine Free.region_puts (S := fun w' => (EnAt w' wo.heap.size 0 ⟨k, v, gn⟩) ∧ EnAt w' rb ro ⟨rk, rv, rg⟩) (B0 := wr.heap.size) (w0 := wr.drew) (om := fun _ => 0) (olds := [])
                (tab := [(1, .gen [.slice (some ⟨rb, ro, none⟩) (n + 1) cp] (.int .i64 ((n + 1 : Nat) : Int))),
                  (2, .cmp .gtr 3 (.int .i64 ((n + 1 : Nat) : Int)) (.int .i64 0) (.bool true)),
                  (5, .gen [.slice (some ⟨rb, ro, none⟩) (n + 1) cp, .int .i64 0] (.pointer (some ⟨rb, ro, none⟩))),
                  (7, .load 9 ⟨rb, ro, none⟩ (.string rk)),
                  (9, .load 9 ⟨wo.heap.size, 0, none⟩ (.string k)),
                  (10, .cmp .lss 9 (.string rk) (.string k) (.bool false))])
                (by kernel_rfl) ⟨by kernel_rfl, ⟨gen_len _ rfl rfl (len_38 _ _ _), fun xo yo w => cmp_gtr3 xo yo w (decide_eq_true (by omega)), gen_at _ rfl rfl (fun w => at_38_0 _ _ _ _ (Nat.succ_pos _) w), fun _ h => load_9 h.2.1, fun _ h => load_9 h.1.1, fun xo yo w => cmp_lss9 xo yo w hlt, trivial⟩,
                  fun β => by kernel_rfl, fun β => by kernel_rfl, fun β => by kernel_rfl, by kernel_rfl, (fun w1 w2 h hb => ⟨h.1.below hb (by omega), h.2.below hb (by omega)⟩), Nat.le_refl _, fun _ _ h => (by cases h), fun _ _ _ _ h => (by cases h)⟩
                ⟨hcS, hrS⟩ rfl (fun _ _ h => (by cases h)) (fun _ => Free.from_ 20 [.slice (some ⟨rb, ro, none⟩) (n + 1) cp, .int .i64 ((n + 1 : Nat) : Int), .bool true, .bool true, .slice (some ⟨rb, ro, none⟩) (n + 1) cp, .pointer (some ⟨rb, ro, none⟩), .pointer (some ⟨rb, ro, none⟩), .string rk, .pointer (some ⟨wo.heap.size, 0, none⟩), .string k, .bool false, .bool false]) (fun β => by kernel_rfl) ?_
              intro β w4 _ hz b _ _ _
              rw [drew_size] at hz
              have hbw4 := Lib.hid (Below.trans (drew_below (Below.refl wr.heap.size wr)) b)
              clear b
              rw [Free.puts_from _ _ _ (Nat.le_of_ble_eq_true rfl)]
              simp only [List.take_succ_cons, List.take_zero, List.drop_succ_cons, List.drop_zero, List.cons_append, List.nil_append, List.length_cons, List.length_nil, Nat.reduceAdd]
              have HRr4 := Lib.hid (HRr.out.below hbw4.out (by omega))
              have HOw4 := Lib.hid (HOwr.out.below hbw4.out)
              have HBw4 := Lib.hid (HBwr.out.trans (hbw4.out.mono (by omega)))
              have HCw4 := Lib.hid (HCwr.out.below hbw4.out (by omega))
              clear HOwr HBwr HCwr
              go_wp2_with fail
              replace hcS := HCw4.out
              replace hrS := HRr4.out
              refine Free.region_puts (S := fun w' => (EnAt w' wo.heap.size 0 ⟨k, v, gn⟩) ∧ EnAt w' rb ro ⟨rk, rv, rg⟩) (B0 := w4.heap.size) (w0 := w4.drew) (om := fun _ => 0) (olds := [])
                (tab := [(1, .gen [.slice (some ⟨rb, ro, none⟩) (n + 1) cp] (.int .i64 ((n + 1 : Nat) : Int))),
                  (2, .cmp .gtr 3 (.int .i64 ((n + 1 : Nat) : Int)) (.int .i64 0) (.bool true)),
                  (5, .gen [.slice (some ⟨rb, ro, none⟩) (n + 1) cp, .int .i64 0] (.pointer (some ⟨rb, ro, none⟩))),
                  (7, .load 9 ⟨rb, ro, none⟩ (.string rk)),
                  (9, .load 9 ⟨wo.heap.size, 0, none⟩ (.string k)),
                  (10, .cmp .eql 9 (.string rk) (.string k) (.bool true))])
                (by kernel_rfl) ⟨by kernel_rfl, ⟨gen_len _ rfl rfl (len_38 _ _ _), fun xo yo w => cmp_gtr3 xo yo w (decide_eq_true (by omega)), gen_at _ rfl rfl (fun w => at_38_0 _ _ _ _ (Nat.succ_pos _) w), fun _ h => load_9 h.2.1, fun _ h => load_9 h.1.1, fun xo yo w => cmp_eql9 xo yo w heq, trivial⟩,
                  fun β => by kernel_rfl, fun β => by kernel_rfl, fun β => by kernel_rfl, by kernel_rfl, (fun w1 w2 h hb => ⟨h.1.below hb (by omega), h.2.below hb (by omega)⟩), Nat.le_refl _, fun _ _ h => (by cases h), fun _ _ _ _ h => (by cases h)⟩
                ⟨hcS, hrS⟩ rfl (fun _ _ h => (by cases h)) (fun _ => Free.from_ 40 [.slice (some ⟨rb, ro, none⟩) (n + 1) cp, .int .i64 ((n + 1 : Nat) : Int), .bool true, .bool true, .slice (some ⟨rb, ro, none⟩) (n + 1) cp, .pointer (some ⟨rb, ro, none⟩), .pointer (some ⟨rb, ro, none⟩), .string rk, .pointer (some ⟨wo.heap.size, 0, none⟩), .string k, .bool true, .bool true]) (fun β => by kernel_rfl) ?_
              intro β w6 _ hz b _ _ _
              rw [drew_size] at hz
              have hbw6 := Lib.hid (Below.trans (drew_below (Below.refl w4.heap.size w4)) b)
              clear b
              rw [Free.puts_from _ _ _ (Nat.le_of_ble_eq_true rfl)]
              simp only [List.take_succ_cons, List.take_zero, List.drop_succ_cons, List.drop_zero, List.cons_append, List.nil_append, List.length_cons, List.length_nil, Nat.reduceAdd]
              have HOw6 := Lib.hid (HOw4.out.below hbw6.out)
              have HBw6 := Lib.hid (HBw4.out.trans (hbw6.out.mono (by omega)))
              have HCw6 := Lib.hid (HCw4.out.below hbw6.out (by omega))
              clear HOw4 HBw4 HCw4
              clear hcS hrS HRr HRr4
              by_cases hcp : cp = 1
              · obtain rfl : n = 0 := by omega
                subst hcp
                obtain ⟨z1, z2, z3⟩ := HCw6.out
                simp only [Nat.zero_add] at z1 z2 z3
                go_wp2_with (at_builtin; refine wpList_append_at rfl (.tmp 54) (.tmp 56) rfl w.heap.size u5 acc [⟨k, v, gn⟩] rfl (HOw6.out.alloc _) ⟨w6.heap.size, 0, none⟩ 1 rfl (cells_new w6 ⟨k, v, gn⟩ 72) (by simp; omega) (by simp; omega) ?_; intro v7 w7 hown hgrow _)
                have hz7 := hgrow.size
                simp at hz7
                have HO7 := Lib.hid hown
                have HB7 := Lib.hid (below_grown (HBw6.out.alloc (by omega) _) (HOw6.out.alloc _) hgrow (by simp; omega))
                clear hown hgrow z1 z2 z3
                go_wp2
                go_roundw
                case rel => exact ⟨j + 1, 0, 0, ⟨rb, ro, none⟩, acc ++ [⟨k, v, gn⟩], r, by go_num, rfl, by omega, hrn2, by omega, by simp; omega, by omega, Lib.hid (.inl (List.eq_nil_of_length_eq_zero hrn2)), HO7, HB7, Lib.hid (by rw [List.append_assoc]; exact HQs.out)⟩
                case measure => simp [intOf]; omega
              · have i2 : (1 : Int) ≤ (cp : Int) := by omega
                have i3 : ((n : Int) + 1) ≤ (cp : Int) := by omega
                have i4 : ¬ cp - 1 = 0 := by omega
                have i5 : (1 : Int) ≤ (n : Int) + 1 := by omega
                obtain ⟨z1, z2, z3⟩ := HCw6.out
                simp only [Nat.zero_add] at z1 z2 z3
                go_wp2_with (at_builtin; refine wpList_append_at rfl (.tmp 54) (.tmp 56) rfl w.heap.size u5 acc [⟨k, v, gn⟩] rfl (HOw6.out.alloc _) ⟨w6.heap.size, 0, none⟩ 1 rfl (cells_new w6 ⟨k, v, gn⟩ 72) (by simp; omega) (by simp; omega) ?_; intro v7 w7 hown hgrow _)
                have hz7 := hgrow.size
                simp at hz7
                have HO7 := Lib.hid hown
                have HB7 := Lib.hid (below_grown (HBw6.out.alloc (by omega) _) (HOw6.out.alloc _) hgrow (by simp; omega))
                clear hown hgrow z1 z2 z3
                go_wp2
                go_roundw
                case rel => exact ⟨j + 1, n, cp - 1, ⟨rb, ro + 3, none⟩, acc ++ [⟨k, v, gn⟩], r, by go_num, rfl, by omega, hrn2, by omega, by simp; omega, by omega, HR2, HO7, HB7, Lib.hid (by rw [List.append_assoc]; exact HQs.out)⟩
                case measure => simp [intOf]; omega
            · have heq : decide (rk = k) = false := decide_eq_false hkk
              rw [if_neg hkk] at HQs
              clear hkk
              have HOwr := HO
              have HBwr := HB
              have HCwr := HC
              have HRr := Lib.hid hrS
              clear HO HB HC
              go_wp2_with fail
              refine Free.region_puts (S := fun w' => (EnAt w' wo.heap.size 0 ⟨k, v, gn⟩) ∧ EnAt w' rb ro ⟨rk, rv, rg⟩) (B0 := wr.heap.size) (w0 := wr.drew) (om := fun _ => 0) (olds := [])
                (tab := [(1, .gen [.slice (some ⟨rb, ro, none⟩) (n + 1) cp] (.int .i64 ((n + 1 : Nat) : Int))),
                  (2, .cmp .gtr 3 (.int .i64 ((n + 1 : Nat) : Int)) (.int .i64 0) (.bool true)),
                  (5, .gen [.slice (some ⟨rb, ro, none⟩) (n + 1) cp, .int .i64 0] (.pointer (some ⟨rb, ro, none⟩))),
                  (7, .load 9 ⟨rb, ro, none⟩ (.string rk)),
                  (9, .load 9 ⟨wo.heap.size, 0, none⟩ (.string k)),
                  (10, .cmp .lss 9 (.string rk) (.string k) (.bool false))])
                (by kernel_rfl) ⟨by kernel_rfl, ⟨gen_len _ rfl rfl (len_38 _ _ _), fun xo yo w => cmp_gtr3 xo yo w (decide_eq_true (by omega)), gen_at _ rfl rfl (fun w => at_38_0 _ _ _ _ (Nat.succ_pos _) w), fun _ h => load_9 h.2.1, fun _ h => load_9 h.1.1, fun xo yo w => cmp_lss9 xo yo w hlt, trivial⟩,
                  fun β => by kernel_rfl, fun β => by kernel_rfl, fun β => by kernel_rfl, by kernel_rfl, (fun w1 w2 h hb => ⟨h.1.below hb (by omega), h.2.below hb (by omega)⟩), Nat.le_refl _, fun _ _ h => (by cases h), fun _ _ _ _ h => (by cases h)⟩
                ⟨hcS, hrS⟩ rfl (fun _ _ h => (by cases h)) (fun _ => Free.from_ 20 [.slice (some ⟨rb, ro, none⟩) (n + 1) cp, .int .i64 ((n + 1 : Nat) : Int), .bool true, .bool true, .slice (some ⟨rb, ro, none⟩) (n + 1) cp, .pointer (some ⟨rb, ro, none⟩), .pointer (some ⟨rb, ro, none⟩), .string rk, .pointer (some ⟨wo.heap.size, 0, none⟩), .string k, .bool false, .bool false]) (fun β => by kernel_rfl) ?_
              intro β w4 _ hz b _ _ _
              rw [drew_size] at hz
              have hbw4 := Lib.hid (Below.trans (drew_below (Below.refl wr.heap.size wr)) b)
              clear b
              rw [Free.puts_from _ _ _ (Nat.le_of_ble_eq_true rfl)]
              simp only [List.take_succ_cons, List.take_zero, List.drop_succ_cons, List.drop_zero, List.cons_append, List.nil_append, List.length_cons, List.length_nil, Nat.reduceAdd]
              have HRr4 := Lib.hid (HRr.out.below hbw4.out (by omega))
              have HOw4 := Lib.hid (HOwr.out.below hbw4.out)
              have HBw4 := Lib.hid (HBwr.out.trans (hbw4.out.mono (by omega)))
              have HCw4 := Lib.hid (HCwr.out.below hbw4.out (by omega))
              clear HOwr HBwr HCwr
              go_wp2_with fail
              replace hcS := HCw4.out
              replace hrS := HRr4.out
              refine Free.region_puts (S := fun w' => (EnAt w' wo.heap.size 0 ⟨k, v, gn⟩) ∧ EnAt w' rb ro ⟨rk, rv, rg⟩) (B0 := w4.heap.size) (w0 := w4.drew) (om := fun _ => 0) (olds := [])
                (tab := [(1, .gen [.slice (some ⟨rb, ro, none⟩) (n + 1) cp] (.int .i64 ((n + 1 : Nat) : Int))),
                  (2, .cmp .gtr 3 (.int .i64 ((n + 1 : Nat) : Int)) (.int .i64 0) (.bool true)),
                  (5, .gen [.slice (some ⟨rb, ro, none⟩) (n + 1) cp, .int .i64 0] (.pointer (some ⟨rb, ro, none⟩))),
                  (7, .load 9 ⟨rb, ro, none⟩ (.string rk)),
                  (9, .load 9 ⟨wo.heap.size, 0, none⟩ (.string k)),
                  (10, .cmp .eql 9 (.string rk) (.string k) (.bool false))])
                (by kernel_rfl) ⟨by kernel_rfl, ⟨gen_len _ rfl rfl (len_38 _ _ _), fun xo yo w => cmp_gtr3 xo yo w (decide_eq_true (by omega)), gen_at _ rfl rfl (fun w => at_38_0 _ _ _ _ (Nat.succ_pos _) w), fun _ h => load_9 h.2.1, fun _ h => load_9 h.1.1, fun xo yo w => cmp_eql9 xo yo w heq, trivial⟩,
                  fun β => by kernel_rfl, fun β => by kernel_rfl, fun β => by kernel_rfl, by kernel_rfl, (fun w1 w2 h hb => ⟨h.1.below hb (by omega), h.2.below hb (by omega)⟩), Nat.le_refl _, fun _ _ h => (by cases h), fun _ _ _ _ h => (by cases h)⟩
                ⟨hcS, hrS⟩ rfl (fun _ _ h => (by cases h)) (fun _ => Free.from_ 40 [.slice (some ⟨rb, ro, none⟩) (n + 1) cp, .int .i64 ((n + 1 : Nat) : Int), .bool true, .bool true, .slice (some ⟨rb, ro, none⟩) (n + 1) cp, .pointer (some ⟨rb, ro, none⟩), .pointer (some ⟨rb, ro, none⟩), .string rk, .pointer (some ⟨wo.heap.size, 0, none⟩), .string k, .bool false, .bool false]) (fun β => by kernel_rfl) ?_
              intro β w6 _ hz b _ _ _
              rw [drew_size] at hz
              have hbw6 := Lib.hid (Below.trans (drew_below (Below.refl w4.heap.size w4)) b)
              clear b
              rw [Free.puts_from _ _ _ (Nat.le_of_ble_eq_true rfl)]
              simp only [List.take_succ_cons, List.take_zero, List.drop_succ_cons, List.drop_zero, List.cons_append, List.nil_append, List.length_cons, List.length_nil, Nat.reduceAdd]
              have HOw6 := Lib.hid (HOw4.out.below hbw6.out)
              have HBw6 := Lib.hid (HBw4.out.trans (hbw6.out.mono (by omega)))
              have HCw6 := Lib.hid (HCw4.out.below hbw6.out (by omega))
              clear HOw4 HBw4 HCw4
              clear hcS hrS HRr HRr4
              obtain ⟨z1, z2, z3⟩ := HCw6.out
              simp only [Nat.zero_add] at z1 z2 z3
              go_wp2_with (at_builtin; refine wpList_append_at rfl (.tmp 54) (.tmp 56) rfl w.heap.size u5 acc [⟨k, v, gn⟩] rfl (HOw6.out.alloc _) ⟨w6.heap.size, 0, none⟩ 1 rfl (cells_new w6 ⟨k, v, gn⟩ 72) (by simp; omega) (by simp; omega) ?_; intro v7 w7 hown hgrow _)
              have hz7 := hgrow.size
              simp at hz7
              have HO7 := Lib.hid hown
              have HB7 := Lib.hid (below_grown (HBw6.out.alloc (by omega) _) (HOw6.out.alloc _) hgrow (by simp; omega))
              clear hown hgrow z1 z2 z3
              go_wp2
              go_roundw
              case rel => exact ⟨j + 1, n + 1, cp, ⟨rb, ro, none⟩, acc ++ [⟨k, v, gn⟩], ⟨rk, rv, rg⟩ :: r, by go_num, rfl, by omega, hrn, by omega, by simp; omega, by omega, HR, HO7, HB7, Lib.hid (by rw [List.append_assoc]; exact HQs.out)⟩
              case measure => simp [intOf]; omega
    · obtain rfl : j = m.length := by omega
      have i1 : ¬ (m.length : Int) < (m.length : Int) := by omega
      subst hrn
      have HF : Hid (acc ++ rest = T) := Lib.hid (by have := HQ.out; rw [List.drop_length] at this; exact this)
      have hmm : ∀ jj u, (enRow rest)[jj]? = some u → wo.cell? (ad.add jj) = some u := by
        rcases List.eq_nil_or_concat rest with h | ⟨r', e', h⟩
        · subst h
          intro jj u hu
          simp [enRow] at hu
        · obtain ⟨g9, o9, e9, h9⟩ := news_of (HR.out.below (HB.out.mono (Nat.le_refl _))) (by rw [h]; simp)
          cases e9
          exact h9
      go_wp2_with (at_builtin; refine wpList_append_at rfl (.tmp 59) (.tmp 60) rfl w.heap.size u5 acc rest rfl HO.out ad cp rfl hmm (by omega) (by omega) ?_; intro v7 w7 hown hgrow _)
      have HO7 : Hid (OwnE 72 w7 w.heap.size v7 T) := Lib.hid (by rw [← HF.out]; exact hown)
      have HB7 := Lib.hid (below_grown HB.out HO.out hgrow (by omega))
      clear hown hgrow
      go_wp2
      go_ret
      exact ⟨_, rfl, HO7.out, HB7.out⟩
end Go.Proofs.Ytkapjijppjfmkaa
