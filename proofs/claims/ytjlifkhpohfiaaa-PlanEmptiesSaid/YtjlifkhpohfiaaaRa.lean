/- What the law's name, handle and cell answer. -/
import Derived.Test.YtjlifkhpohfiaaaMa
namespace Go.Proofs.Ytjlifkhpohfiaaa
open Go.RowKit Go.Op
set_option maxRecDepth 100000

theorem add_off (b o j : Nat) : (⟨b, o, none⟩ : Addr).add j = ⟨b, o + j, none⟩ := by simp [Addr.add]
section
variable {w w1 w2 : World} {base size n : Nat} {e : TypeId} {v : Value} {xs : List Value}
theorem own_later (h : w.ownsRow base e size v n xs) (hb : Below w.heap.size w w1) : w1.ownsRow base e size v n xs := by
  refine ⟨h.1, ?_⟩
  have hl := World.ownsRow.lt h
  rcases h.2 with q | ⟨g, cap, cur, e1, e2, e3, e4⟩
  · exact .inl q
  · exact .inr ⟨g, cap, cur, e1, e2, by rw [hb.block g (hl g (by rw [e1]; rfl)).2]; exact e3, e4⟩
theorem own_base {b2 : Nat} (h : w.ownsRow base e size v n xs) (hb : b2 ≤ base) : w.ownsRow b2 e size v n xs := by
  refine ⟨h.1, ?_⟩
  rcases h.2 with q | ⟨g, cap, cur, e1, e2, e3⟩
  · exact .inl q
  · exact .inr ⟨g, cap, cur, e1, by omega, e3⟩
theorem own_val (h : w.ownsRow base e size v n xs) : (v = .slice none 0 0 ∧ n = 0) ∨ ∃ g cap, v = .slice (some ⟨g, 0, none⟩) n cap ∧ n ≤ cap ∧ base ≤ g ∧ g < w.heap.size ∧ w.rangeAt g 0 xs := by
  rcases id h.2 with q | ⟨g, cap, cur, e1, q1, q2, q3, -⟩
  · exact .inl q
  · refine .inr ⟨g, cap, e1, q3, q1, (World.ownsRow.lt h g (by rw [e1]; rfl)).2, fun j u hu => ?_⟩
    have := World.ownsRow.cells h (g := g) (by rw [e1]; rfl) j u hu
    rwa [add_off] at this
theorem own_row (h : w.ownsRow base e size v n xs) : ∃ a cap, v = .slice a n cap ∧ n ≤ cap ∧ RowAt w a xs := by
  rcases own_val h with ⟨rfl, rfl⟩ | ⟨g, cap, rfl, hc, hb, hl, hr⟩
  · exact ⟨none, 0, rfl, Nat.le_refl _, .inl (by have := h.1; rw [Nat.zero_mul] at this; exact List.length_eq_zero_iff.1 this)⟩
  · exact ⟨_, cap, rfl, hc, .inr ⟨g, 0, rfl, hl, hr⟩⟩
/-- More is appended to a row of the caller's own. -/
theorem own_app (T : TypeId) (bytes : Nat) (i0 : TypeInfo) (z : Value) (hT : Try.prog.underlying T = some (.slice e)) (hi : Try.prog.info? e = some i0) (hz0 : i0.zero = some z) (hz1 : i0.size = size) (hz2 : i0.bytes = bytes) (hzs : z.cells.size = size) (hsz : 0 < size)
    (h : w1.ownsRow base e size v n xs) (hb1 : base ≤ w1.heap.size) (ad : Addr) (k cap : Nat) (news : List Value) (hl : news.length = k * size) (hk : ∀ j u, news[j]? = some u → w1.cell? (ad.add j) = some u) (h1 : ∀ u ∈ news, u.oneCell' = true) (hn : n + k ≤ 1000000) (hby : bytes ≤ 1000) (ty : TypeId) :
    ∃ a' cap' w2, (Builtin.append_ #[T, T] ty #[v, .slice (some ad) k cap]).run Try.prog w1 = .ok (.slice a' (n + k) cap') w2 ∧ w2.ownsRow base e size (.slice a' (n + k) cap') (n + k) (xs ++ news) ∧ w1.heap.size ≤ w2.heap.size ∧ Below base w1 w2 ∧ (∀ j, j < w1.heap.size → v.ownBlock ≠ some j → w2.heap[j]? = w1.heap[j]?) ∧ ((Value.slice a' (n + k) cap').ownBlock = v.ownBlock ∨ (Value.slice a' (n + k) cap').ownBlock = some w1.heap.size) := by
  obtain ⟨v', w', hr, ho, hg, _, hnw⟩ := run_append_own_at w1 base T ty e i0 z size bytes hT hi hz0 hz1 hz2 hzs hsz v n xs h ad k cap news hl hk h1 (by unfold maxLen; omega) (Nat.le_trans (Nat.mul_le_mul hn hby) (by decide)) hb1
  have hvb := World.ownsRow.lt h
  have hbel : Below base w1 w' := ⟨hg.os, hg.tape, hg.output, hg.size, fun j hj => hg.block j (by omega) (fun e => by have := (hvb j e.symm).1; omega)⟩
  have hbl : ∀ j, j < w1.heap.size → v.ownBlock ≠ some j → w'.heap[j]? = w1.heap[j]? := fun j hj hn => hg.block j hj fun e => hn e.symm
  rcases own_val ho with ⟨e1, e2⟩ | ⟨g, cap', e1, -⟩
  · subst e1
    exact ⟨none, 0, w', by rw [hr, e2], by rw [e2] at ho ⊢; exact ho, hg.size, hbel, hbl, hnw⟩
  · subst e1
    exact ⟨_, cap', w', hr, ho, hg.size, hbel, hbl, hnw⟩
end
/-- Slices of a type: one element more. -/
structure SK (T e : TypeId) (size : Nat) : Prop where
  app : ∀ {w : World} {base : Nat} {v : Value} {n : Nat} {xs : List Value}, w.ownsRow base e size v n xs → base ≤ w.heap.size → ∀ (z : Nat) (row : List Value), w.rangeAt z 0 row → row.length = size → (∀ u ∈ row, u.oneCell' = true) → n + 1 ≤ 1000000 → ∀ ty,
    ∃ a' cap' w2, (Builtin.append_ #[T, T] ty #[v, .slice (some ⟨z, 0, none⟩) 1 1]).run Try.prog w = .ok (.slice a' (n + 1) cap') w2 ∧ w2.ownsRow base e size (.slice a' (n + 1) cap') (n + 1) (xs ++ row) ∧ w.heap.size ≤ w2.heap.size ∧ Below base w w2 ∧ (∀ j, j < w.heap.size → v.ownBlock ≠ some j → w2.heap[j]? = w.heap[j]?) ∧ ((Value.slice a' (n + 1) cap').ownBlock = v.ownBlock ∨ (Value.slice a' (n + 1) cap').ownBlock = some w.heap.size)
theorem sk_of {T e : TypeId} {size bytes : Nat} {z : Value} (hT : Try.prog.underlying T = some (.slice e)) (hi : (Try.prog.info? e).map (fun i => (i.zero, i.size, i.bytes)) = some (some z, size, bytes)) (hzs : z.cells.size = size) (hsz : 0 < size) (hby : bytes ≤ 1000) : SK T e size := by
  obtain ⟨i0, hi, hz0, hz1, hz2⟩ := info_parts hi
  refine ⟨fun h hb z' row hz hl h1 hn ty => ?_⟩
  exact own_app T bytes i0 z hT hi hz0 hz1 hz2 hzs hsz h hb ⟨z', 0, none⟩ 1 1 row (by rw [hl, Nat.one_mul]) (fun j u hu => by rw [add_off]; exact hz j u hu) h1 hn hby ty
theorem sk35 : SK 35 3 1 := sk_of (bytes := 8) (z := .int .i64 0) Try.underlying35 (by kernel_rfl) rfl (by decide) (by decide)
theorem sk72 : SK 72 77 3 := sk_of (bytes := 40) (z := .agg #[.string ⟨#[]⟩, .string ⟨#[]⟩, .bool false]) Try.underlying72 (by kernel_rfl) rfl (by decide) (by decide)
theorem append_run2 {P : Program} {w : World} {ops : Array Oper} {rest : List Oper} {o : Oper} {a : Act} {Q : Exit → Act → World → Prop} {v y : Value} {R : Value → World → Prop} (hgd : o.guard = none) (s x : Operand) (t : TypeId)
    (ho : o.op = .call { callee := .builtin .append, args := #[s, x], argTypes := #[t, t] }) (hs : a.eval s = v) (hx : a.eval x = y)
    (hr : ∀ ty, ∃ u w', (Builtin.append_ #[t, t] ty #[v, y]).run P w = .ok u w' ∧ R u w') (h : ∀ u w', R u w' → wpList P ops Q rest (a.put o.dst u) w') : wpList P ops Q (o :: rest) a w := by
  refine wpList_plain hgd fun K hK => ?_
  obtain ⟨u, w', h1, h2⟩ := hr o.type
  unfold Oper.wp execOp
  simp only [ho, resolve, invoke, builtin, Sem.run_bind, Sem.run_pure, Result.andThen_ok, List.map_toArray, List.map_cons, List.map_nil, hs, hx, h1]
  exact hK _ _ (h u w' h2)

theorem lhandle_any (i : Nat) (w : World) : Calls Try.prog 13 #[.int .i64 (i : Int)] w fun e w' => e = .returned (.int .i64 (handI i)) ∧ w = w' := by
  have hh := fun w => handle_any (i : Int) 7 w
  unfold handI
  go_enter Try.func13, Try.ntmps13
  go_wp2_with fail
  refine (hh _).mono ?_
  rintro e w1 ⟨rfl, rfl⟩
  go_wp2
  go_ret
  exact ⟨rfl, rfl⟩
theorem cell_any (i k : Nat) (hi : i ≤ 1000000) (hk : k ≤ 1000000) (w : World) : Calls Try.prog 19 #[.int .i64 (i : Int), .int .i64 (k : Int)] w fun e w' => e = .returned (.int .i64 (cellI i k)) ∧ w = w' := by
  unfold cellI
  go_enter Try.func19, Try.ntmps19
  go_wp2
  go_ret
  exact ⟨rfl, rfl⟩
/-- A text of bytes that stand in a new block. -/
theorem str_of (w : World) (l : List UInt8) (row : List Value) (hv : row = l.map fun b => Value.int .u8 (b.toNat : Int)) : (convert 100 9 (.slice (some ⟨w.heap.size, 0, none⟩) l.length l.length)).run Try.prog (w.alloc (.cells row.toArray 5)) = .ok (.string ⟨l.toArray⟩) (w.alloc (.cells row.toArray 5)) := by
  refine run_convert_bytes_back (P := Try.prog) _ 100 9 5 ⟨w.heap.size, 0, none⟩ l.length l Try.underlying100 Try.underlying5 Try.underlying9 fun j hj => ?_
  have h := (snew w row 5).cell (i := j) (v := .int .u8 (l[j].toNat : Int)) (by rw [hv]; simp [hj])
  rw [add_off, Nat.zero_add]
  exact h
theorem ofNat_toNat {n : Nat} (h : n < 256) : (UInt8.ofNat n).toNat = n := by simp; omega
theorem name_any (i : Nat) (hi : i ≤ 100) (w : World) : Calls Try.prog 29 #[.int .i64 (i : Int)] w fun e w' => e = .returned (.string (nameB i)) ∧ Below w.heap.size w w' := by
  by_cases h : i = 0
  · subst h
    have e : nameB 0 = ⟨#[]⟩ := rfl
    rw [e]
    go_enter Try.func29, Try.ntmps29
    go_wp2
    go_ret
    exact ⟨rfl, Below.refl _ _⟩
  · have e : nameB i = one (96 + i) := if_neg h
    have h1 : ¬ (i : Int) = 0 := by omega
    have hcv := str_of w [UInt8.ofNat (96 + i)] [.int .u8 (97 + (i : Int) - 1)] (by simp only [List.map_cons, List.map_nil, ofNat_toNat (show 96 + i < 256 by omega)]; congr 2; omega)
    have HB := Lib.hid ((Below.refl w.heap.size w).alloc (Nat.le_refl _) (.cells #[.int .u8 (97 + (i : Int) - 1)] 5))
    have h3 : one (96 + i) = ⟨#[UInt8.ofNat (96 + i)]⟩ := rfl
    simp only [List.length_cons, List.length_nil, Nat.zero_add] at hcv
    rw [e, h3]
    clear h e h3
    generalize (UInt8.ofNat (96 + i)) = z at hcv ⊢
    go_enter Try.func29, Try.ntmps29
    go_wp2
    go_ret
    exact ⟨rfl, HB.out⟩
/-- Numbers, as Go's. -/
def nz (l : List Nat) : List Int := l.map fun (n : Nat) => (n : Int)
theorem nz_length (l : List Nat) : (nz l).length = l.length := by simp [nz]
theorem nz_get {l : List Nat} {i x : Nat} (h : l[i]? = some x) : (nz l)[i]? = some (x : Int) := by simp [nz, h]
theorem firstH_at {hs : List Nat} {k : Int} {i x : Nat} (h : hs[i]? = some x) : firstH hs k i = if k < (x : Int) then some i else firstH hs k (i + 1) := by
  obtain ⟨hi, rfl⟩ := List.getElem?_eq_some_iff.1 h
  rw [firstH, dif_pos hi]
theorem firstH_end {hs : List Nat} {k : Int} {i : Nat} (h : hs.length ≤ i) : firstH hs k i = none := by rw [firstH, dif_neg (by omega)]
set_option maxHeartbeats 1000000 in
theorem refTo_any (w : World) (a : Option Addr) (cap : Nat) (l : List Nat) (hl : l.length ≤ 1000000) (h : RowAt w a (ints (nz l))) (i : Nat) (hi : i ≤ 1000000) (lv : Int) :
    Calls Try.prog 32 #[.slice a l.length cap, .int .i64 (i : Int), .int .i64 lv] w fun e w' => e = .returned (.int .i64 (ofO (firstH l lv (i + 1)))) ∧ w = w' := by
  obtain ⟨n, hn⟩ : ∃ n, n = l.length := ⟨_, rfl⟩
  have HN := Lib.hid hn
  have HR := Lib.hid h
  have hn2 : (n : Int) ≤ 1000000 := by omega
  obtain ⟨F, hF⟩ : ∃ F, F = firstH l lv (i + 1) := ⟨_, rfl⟩
  have HF := Lib.hid hF
  rw [← hn, ← hF]
  clear hn h hl hF
  go_enter Try.func32, Try.ntmps32
  go_wp2_with fail
  go_loopw [7] (fun iv wr => ∃ j : Nat, iv = .int .i64 (j : Int) ∧ i < j ∧ j ≤ 1000001 ∧ w = wr ∧ Hid (F = firstH l lv j)) (fun iv _ => 1000002 - (intOf iv).toNat)
  case atStart => exact ⟨i + 1, by simp, by omega, by omega, rfl, HF⟩
  case round =>
    obtain ⟨j, rfl, hij, hj, rfl, hX⟩ := hrel
    by_cases hlt : j < n
    · have hlt2 : (j : Int) < (n : Int) := by omega
      obtain ⟨x, hx⟩ : ∃ x, l[j]? = some x := ⟨_, List.getElem?_eq_getElem (by rw [← HN.out]; exact hlt)⟩
      obtain ⟨g, o, ea, -, hc⟩ := HR.out.at_ (nz_get hx)
      subst ea
      by_cases hv : lv < (x : Int)
      · have HE : Hid (F = some j) := Lib.hid (by rw [hX.out, firstH_at hx, if_pos hv])
        clear hX HR hx HF
        go_wp2_with fail
        go_ret
        exact ⟨by rw [HE.out]; rfl, rfl⟩
      · have HX2 : Hid (F = firstH l lv (j + 1)) := Lib.hid (by rw [hX.out, firstH_at hx, if_neg hv])
        clear hX HR hx HF
        go_wp2_with fail
        exact ⟨⟨j + 1, by simp, by omega, by omega, by trivial, HX2⟩, by simp only [intOf]; omega⟩
    · have hlt2 : ¬ (j : Int) < (n : Int) := by omega
      have HE : Hid (F = none) := Lib.hid (by rw [hX.out]; exact firstH_end (by rw [← HN.out]; omega))
      clear hX HR HF
      go_wp2_with fail
      go_ret
      exact ⟨by rw [HE.out]; rfl, rfl⟩
end Go.Proofs.Ytjlifkhpohfiaaa
