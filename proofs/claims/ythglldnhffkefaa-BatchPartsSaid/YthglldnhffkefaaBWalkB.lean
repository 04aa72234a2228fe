/- What the reference's Sorted makes of any entries: them sorted. Conditions: at most 1000000 entries, of keys of at most 1000000 bytes. -/
import Derived.Test.YthglldnhffkefaaTGen
namespace Go.Proofs.Ythglldnhffkefaa
open Go.RowKit Go.Op
set_option maxRecDepth 100000

/-- What is true while an entry is put into a row by three appends. -/
def SortS (wo : World) (s1 s2 : List En) (e : En) : List Bool → (Nat → Value) → World → Prop
  | [b0, b4, b9, b10, b14], β, w => Below wo.heap.size wo w ∧ (b0 = true → b4 = false → OwnE 53 w wo.heap.size (β 0) []) ∧ (b4 = true → b10 = false → OwnE 53 w wo.heap.size (β 4) s1) ∧
    (b9 = true → b10 = false → ∃ g, β 9 = .slice (some ⟨g, 0, none⟩) 1 1 ∧ Ents w (some ⟨g, 0, none⟩) [e] ∧ (b0 = true → b4 = false → (β 0).ownBlock ≠ some g)) ∧
    (b10 = true → b14 = false → OwnE 53 w wo.heap.size (β 10) (s1 ++ [e])) ∧ (b14 = true → OwnE 53 w wo.heap.size (β 14) (s1 ++ e :: s2))
  | _, _, _ => False
section
variable {wo w : World} {s1 s2 : List En} {e : En} {bs : List Bool} {β : Nat → Value}
theorem sort_b (h : SortS wo s1 s2 e bs β w) : Below wo.heap.size wo w := by
  unfold SortS at h
  split at h
  · exact h.1
  · exact h.elim
theorem sort_start (h : Below wo.heap.size wo w) : SortS wo s1 s2 e [false, false, false, false, false] β w :=
  ⟨h, fun h => (by cases h), fun h => (by cases h), fun h => (by cases h), fun h => (by cases h), fun h => (by cases h)⟩
theorem sort_end (h : SortS wo s1 s2 e [true, true, true, true, true] β w) : Below wo.heap.size wo w ∧ OwnE 53 w wo.heap.size (β 14) (s1 ++ e :: s2) := ⟨h.1, h.2.2.2.2.2 rfl⟩
theorem ents_grown {w w' : World} {g : Nat} {row : Option Nat} {l : List En} (h : Ents w (some ⟨g, 0, none⟩) l) (hg : w.grownBy w' row) (hn : row ≠ some g) : Ents w' (some ⟨g, 0, none⟩) l := by
  rcases h with rfl | ⟨b, off, e, hlt, hc⟩
  · exact .inl rfl
  · cases e
    have hb := hg.block g hlt (fun e => hn e.symm)
    refine .inr ⟨g, 0, rfl, Nat.lt_of_lt_of_le hlt hg.size, fun k hk => ?_⟩
    obtain ⟨c1, c2, c3⟩ := hc k hk
    exact ⟨by rw [World.cell?_of_block (a := ⟨g, _, none⟩) hb]; exact c1, by rw [World.cell?_of_block (a := ⟨g, _, none⟩) hb]; exact c2, by rw [World.cell?_of_block (a := ⟨g, _, none⟩) hb]; exact c3⟩
theorem sort_e0 (h : SortS wo s1 s2 e bs β w) (h4 : bs[1]? = some false) (h10 : bs[3]? = some false) (h14 : bs[4]? = some false) :
    ∃ u w', (Instr.buildSlice 22 0 #[]).run Try.prog w = .ok u w' ∧ SortS wo s1 s2 e (bs.set 0 true) (FreeT.upd β 0 u) w' := by
  match bs, h with
  | [b0, b4, b9, b10, b14], ⟨hb, _, _, q9, _, _⟩ =>
    simp only [List.getElem?_cons_succ, List.getElem?_cons_zero, Option.some.injEq] at h4 h10 h14
    subst h4 h10 h14
    refine ⟨_, _, run_row0 (.inr ⟨rfl, rfl⟩) w, hb.alloc hb.size _, fun _ _ => own_row0 53 w hb.size, fun h => (by cases h), fun h _ => ?_, fun h => (by cases h), fun h => (by cases h)⟩
    obtain ⟨g, e1, e2, _⟩ := q9 h rfl
    refine ⟨g, e1, e2.below ((Below.refl _ _).alloc (Nat.le_refl _) _), fun _ _ e3 => ?_⟩
    have e4 : w.heap.size = g := by simpa [FreeT.upd, Value.ownBlock] using e3
    rcases e2 with e5 | ⟨b, o, e5, hlt, _⟩
    · cases e5
    · cases e5
      omega
theorem sort_e4 {oa : Option Addr} {k oc : Nat} (h : SortS wo s1 s2 e bs β w) (h0 : bs[0]? = some true) (h4 : bs[1]? = some false) (h10 : bs[3]? = some false) (h14 : bs[4]? = some false) (hC : Cut wo oa s1 oc) (hk : s1.length = k) (ty : TypeId) (hs : s1.length ≤ 1000000 := by omega) :
    ∃ u w', (Builtin.append_ #[22, 22] ty #[β 0, .slice oa k oc]).run Try.prog w = .ok u w' ∧ SortS wo s1 s2 e (bs.set 1 true) (FreeT.upd β 4 u) w' := by
  match bs, h with
  | [b0, b4, b9, b10, b14], ⟨hb, q0, _, q9, _, _⟩ =>
    simp only [List.getElem?_cons_succ, List.getElem?_cons_zero, Option.some.injEq] at h0 h4 h10 h14
    subst h0 h4 h10 h14 hk
    have o0 := q0 rfl rfl
    obtain ⟨v', w', hr, ho, hg, _⟩ := run_append_cut 22 53 (.inr ⟨rfl, rfl⟩) wo.heap.size (β 0) [] s1 w o0 oa oc (hC.e.below hb) hC.none (by simp; omega) hb.size ty
    refine ⟨v', w', hr, below_grown hb o0 hg hb.size, fun _ h => (by cases h), fun _ _ => (by show OwnE 53 w' wo.heap.size v' s1; simpa using ho), fun h _ => ?_, fun h => (by cases h), fun h => (by cases h)⟩
    obtain ⟨g, e1, e2, e3⟩ := q9 h rfl
    exact ⟨g, e1, ents_grown e2 hg (e3 rfl rfl), fun _ h => (by cases h)⟩
theorem sort_e9 (h : SortS wo s1 s2 e bs β w) (h9 : bs[2]? = some false) (h10 : bs[3]? = some false) (h14 : bs[4]? = some false) :
    ∃ u w', (Instr.buildSlice 22 1 #[(0, e.v)]).run Try.prog w = .ok u w' ∧ SortS wo s1 s2 e (bs.set 2 true) (FreeT.upd β 9 u) w' := by
  match bs, h with
  | [b0, b4, b9, b10, b14], ⟨hb, q0, q4, _, _, _⟩ =>
    simp only [List.getElem?_cons_succ, List.getElem?_cons_zero, Option.some.injEq] at h9 h10 h14
    subst h9 h10 h14
    refine ⟨_, _, run_row1 (.inr ⟨rfl, rfl⟩) e w, hb.alloc hb.size _, fun h1 h2 => (q0 h1 h2).alloc _, fun h1 h2 => (q4 h1 h2).alloc _, fun _ _ => ⟨w.heap.size, rfl, ents_row1 w e 53, fun h1 h2 e3 => ?_⟩, fun h => (by cases h), fun h => (by cases h)⟩
    have := ((q0 h1 h2).lt _ e3).2
    omega
theorem sort_e10 (h : SortS wo s1 s2 e bs β w) (h4 : bs[1]? = some true) (h9 : bs[2]? = some true) (h10 : bs[3]? = some false) (h14 : bs[4]? = some false) (ty : TypeId) (hs : s1.length ≤ 1000000 := by omega) :
    ∃ u w', (Builtin.append_ #[22, 22] ty #[β 4, β 9]).run Try.prog w = .ok u w' ∧ SortS wo s1 s2 e (bs.set 3 true) (FreeT.upd β 10 u) w' := by
  match bs, h with
  | [b0, b4, b9, b10, b14], ⟨hb, _, q4, q9, _, _⟩ =>
    simp only [List.getElem?_cons_succ, List.getElem?_cons_zero, Option.some.injEq] at h4 h9 h10 h14
    subst h4 h9 h10 h14
    have o4 := q4 rfl rfl
    obtain ⟨g, e1, e2, _⟩ := q9 rfl rfl
    obtain ⟨v', w', hr, ho, hg, _⟩ := run_append_cut 22 53 (.inr ⟨rfl, rfl⟩) wo.heap.size (β 4) s1 [e] w o4 (some ⟨g, 0, none⟩) 1 e2 (fun h => by cases h) (by simp; omega) hb.size ty
    rw [e1]
    exact ⟨v', w', hr, below_grown hb o4 hg hb.size, fun _ h => (by cases h), fun _ h => (by cases h), fun _ h => (by cases h), fun _ _ => ho, fun h => (by cases h)⟩
theorem sort_e14 {oa : Option Addr} {k oc : Nat} (h : SortS wo s1 s2 e bs β w) (h4 : bs[1]? = some true) (h10 : bs[3]? = some true) (h14 : bs[4]? = some false) (hC : Cut wo oa s2 oc) (hk : s2.length = k) (ty : TypeId) (hs : s1.length + s2.length ≤ 1000000 := by omega) :
    ∃ u w', (Builtin.append_ #[22, 22] ty #[β 10, .slice oa k oc]).run Try.prog w = .ok u w' ∧ SortS wo s1 s2 e (bs.set 4 true) (FreeT.upd β 14 u) w' := by
  match bs, h with
  | [b0, b4, b9, b10, b14], ⟨hb, _, _, _, q10, _⟩ =>
    simp only [List.getElem?_cons_succ, List.getElem?_cons_zero, Option.some.injEq] at h4 h10 h14
    subst h4 h10 h14 hk
    have o10 := q10 rfl rfl
    obtain ⟨v', w', hr, ho, hg, _⟩ := run_append_cut 22 53 (.inr ⟨rfl, rfl⟩) wo.heap.size (β 10) (s1 ++ [e]) s2 w o10 oa oc (hC.e.below hb) hC.none (by simp; omega) hb.size ty
    exact ⟨v', w', hr, below_grown hb o10 hg hb.size, fun _ h => (by cases h), fun _ h => (by cases h), fun _ h => (by cases h), fun _ h => (by cases h), fun _ => (by show OwnE 53 w' wo.heap.size v' (s1 ++ e :: s2); simpa using ho)⟩
end
theorem OwnE.lower {T : Nat} {w : World} {b b' : Nat} {v : Value} {l : List En} (h : OwnE T w b v l) (hb : b' ≤ b) : OwnE T w b' v l := by
  obtain ⟨h1, h2⟩ := h
  refine ⟨h1, ?_⟩
  rcases h2 with h2 | ⟨g, cap, cur, e, hg, r⟩
  · exact .inl h2
  · exact .inr ⟨g, cap, cur, e, Nat.le_trans hb hg, r⟩
theorem less_keep {wo w : World} {a b : ByteArray} {r : Bool} (hr : lt a b = r) (ha : a.size ≤ 1000000) (hb : b.size ≤ 1000000) (h : Below wo.heap.size wo w) : Calls Try.prog 29 #[.string a, .string b] w fun e w' => e = .returned (.bool r) ∧ Below wo.heap.size wo w' :=
  (less_any a b ha hb w).mono fun _ _ h2 => ⟨by rw [h2.1, hr], h.trans (h2.2.mono h.size)⟩
theorem enter_29 (xs : Array Value) (w : World) : (callFunc 29 xs).run Try.prog w = .ok (.enter 29 xs) w := by kernel_rfl

set_option maxHeartbeats 4000000 in
theorem refsorted_any (a : Option Addr) (l : List En) (c : Nat) (w : World) (hl : l.length ≤ 1000000) (hk : ∀ e ∈ l, e.key.size ≤ 1000000) (hE : Ents w a l) :
    Calls Try.prog 14 #[.slice a l.length c] w fun e w' => ∃ v, e = .returned v ∧ OwnE 53 w' w.heap.size v (sortL l) ∧ Below w.heap.size w w' := by
  have HE := Lib.hid hE
  have HKK := Lib.hid hk
  clear hE hk
  go_enter Try.func14, Try.ntmps14
  go_wp2
  go_loopw [3, 4] (fun ov iv wr => ∃ i : Nat, iv = .int .i64 (i : Int) ∧ i ≤ l.length ∧ Hid (OwnE 53 wr w.heap.size ov (sortL (l.take i))) ∧ Hid (Below w.heap.size w wr)) (fun _ iv _ => l.length - (intOf iv).toNat)
  case atStart => exact ⟨0, rfl, by omega, Lib.hid (OwnE.nil _ _ _), Lib.hid (Below.refl _ _)⟩
  case round =>
    obtain ⟨i, rfl, hil, HO, HB⟩ := hrel
    have hown := HO.out
    have hb := HB.out
    have sz0 := hb.size
    obtain ⟨wo, hwo⟩ : ∃ wo, wo = wr := ⟨_, rfl⟩
    subst hwo
    by_cases h1 : i < l.length
    · have i1 : (i : Int) < (l.length : Int) := by omega
      obtain ⟨eb, eo, rfl, heb0, hc0⟩ := HE.out.at h1
      have hce := hc0.below hb heb0
      have heb : eb < wo.heap.size := Nat.lt_of_lt_of_le heb0 sz0
      have h1' := h1
      have HU := Lib.hid (up_sort (l.take i))
      have hlen : (sortL (l.take i)).length = i := by rw [sort_length, List.length_take]; omega
      have HKL : Hid (∀ z ∈ sortL (l.take i), z.key.size ≤ 1000000) := Lib.hid (fun z hz => HKK.out z (List.mem_of_mem_take (mem_sort.1 hz)))
      have hke : l[i].key.size ≤ 1000000 := HKK.out _ (List.getElem_mem h1)
      generalize hei : l[i] = e at hce hke
      have HEI := Lib.hid hei
      generalize hou : sortL (l.take i) = out at hown HU hlen HKL
      have HS := Lib.hid hou
      clear hou hei hc0
      obtain ⟨oa, oc, rfl, hcut, hoa, _⟩ := hown.sl
      have HC := Lib.hid hcut
      have hol : out.length ≤ 1000000 := by omega
      have HCE := Lib.hid hce
      have HOA := Lib.hid hoa
      have HLen := Lib.hid hlen
      clear hown hcut hce hoa HO hlen
      have hb0 := HB
      clear hb
      go_wp2
      go_loopw [5] (fun kv wr => ∃ (k : Nat) (s1 s2 : List En), kv = .int .i64 (k : Int) ∧ s1.length = k ∧ Hid (s1 ++ s2 = out) ∧ s1.length + s2.length = out.length ∧ Hid (∀ z ∈ s2, lt e.key z.key = true) ∧ Hid (Below wo.heap.size wo wr)) (fun kv _ => (intOf kv).toNat)
      case atStart => exact ⟨out.length, out, [], rfl, rfl, Lib.hid (by simp), by simp, Lib.hid (by simp), Lib.hid (Below.refl _ _)⟩
      case round =>
        obtain ⟨k, s1, s2, rfl, hk1, HX, hls, HG, HB2⟩ := hrel
        have hb2 := HB2.out
        have hk2 : s2.length = out.length - k := by omega
        have hb := HB.out
        have hce := HCE.out
        rcases List.eq_nil_or_concat s1 with rfl | ⟨t, p, rfl⟩
        · simp only [List.length_nil] at hk1
          subst hk1
          have hk1 : ([] : List En).length = 0 := rfl
          obtain ⟨k, hk0⟩ : ∃ k, k = 0 := ⟨0, rfl⟩
          obtain ⟨s1, hs1⟩ : ∃ s1 : List En, s1 = [] := ⟨_, rfl⟩
          have gk : decide ((0 : Int) < (k : Int)) = false := decide_eq_false (by omega)
          have hk1 : s1.length = k := by rw [hs1, hk0]; rfl
          have HX : Hid (s1 ++ s2 = out) := Lib.hid (by rw [hs1]; exact HX.out)
          have hls : s1.length + s2.length = out.length := by simp at hls ⊢; rw [hs1]; simpa using hls
          have hk2 : s2.length = out.length - k := by omega
          rw [show ((0 : Nat) : Int) = (k : Int) by omega]
          go_wp2_with fail
          refine FreeS.region_puts (S := fun _ W => Below wo.heap.size wo W) (sts := [])
            (tab := [(1, [.int .i64 (k : Int), .int .i64 0], .bool false, .pure)])
            (by kernel_rfl) ⟨by kernel_rfl, ⟨FreeS.d_bin _ rfl rfl (fun xo yo w => cmp_gtr3 xo yo w gk),
              trivial⟩,
              by kernel_rfl, by kernel_rfl, by kernel_rfl⟩ (drew_below hb2) (Free.from_ 14 [.int .i64 (k : Int), .bool false, .bool false, undef, undef, undef, undef, undef, undef, undef, undef, undef, undef, undef, undef, .bool false]) (by kernel_rfl) ?_
          intro w4 h4
          rw [Free.puts_from _ _ _ (Nat.le_of_ble_eq_true rfl)]
          simp only [List.take_succ_cons, List.take_zero, List.drop_succ_cons, List.drop_zero, List.cons_append, List.nil_append, List.length_cons, List.length_nil, Nat.reduceAdd]
          have hb2 := h4
          clear h4
          have HC1 : Hid (Cut wo oa s1 oc) := Lib.hid (by have := HC.out.take k; rwa [← HX.out, ← hk1, List.take_left] at this)
          have HC2 : Hid (Cut wo (dropA oa oc k) s2 (oc - k)) := Lib.hid (by have h9 := HC.out.drop (k := s1.length) (by omega); rw [← HX.out, List.drop_left] at h9; rw [← hk1]; exact h9)
          have hkn : k ≤ out.length := by omega
          have hkc : k ≤ oc := Nat.le_trans hkn HC.out.len
          have HI : Hid (s1 ++ e :: s2 = sortL (l.take (i + 1))) := Lib.hid (by rw [sort_take h1', HS.out, ← HX.out, HEI.out]; exact (ins_at HG.out ((by intro z hz; rw [hs1] at hz; simp at hz)) (by rw [HX.out]; exact HU.out)).symm)
          go_wp2_with fail
          refine FreeT.region_puts (S := SortS wo s1 s2 e) (effs := [0, 4, 9, 10, 14])
            (tab := [⟨0, fun _ => [], fun β => (β 0), .eff⟩,
              ⟨3, fun _ => [.slice oa out.length oc, .int .i64 (k : Int)], fun _ => .slice oa k oc, .pure⟩,
              ⟨4, fun β => [(β 0), .slice oa k oc], fun β => (β 4), .eff⟩,
              ⟨7, fun _ => [.slice (some ⟨eb, eo, none⟩) l.length c, .int .i64 (i : Int)], fun _ => .pointer (some ⟨eb, eo + i * 3, none⟩), .pure⟩,
              ⟨8, fun _ => [.pointer (some ⟨eb, eo + i * 3, none⟩)], fun _ => e.v, .read⟩,
              ⟨9, fun _ => [e.v], fun β => (β 9), .eff⟩,
              ⟨10, fun β => [(β 4), (β 9)], fun β => (β 10), .eff⟩,
              ⟨13, fun _ => [.slice oa out.length oc, .int .i64 (k : Int)], fun _ => .slice (dropA oa oc k) (out.length - k) (oc - k), .pure⟩,
              ⟨14, fun β => [(β 10), .slice (dropA oa oc k) (out.length - k) (oc - k)], fun β => (β 14), .eff⟩])
            (vs := [([0], fun l => l.headD undef), ([], fun _ => .slice oa out.length oc), ([], fun _ => .int .i64 (k : Int)), ([], fun _ => .slice oa k oc), ([4], fun l => l.headD undef), ([], fun _ => .slice (some ⟨eb, eo, none⟩) l.length c), ([], fun _ => .int .i64 (i : Int)), ([], fun _ => .pointer (some ⟨eb, eo + i * 3, none⟩)), ([], fun _ => e.v), ([9], fun l => l.headD undef), ([10], fun l => l.headD undef), ([], fun _ => .slice oa out.length oc), ([], fun _ => .int .i64 (k : Int)), ([], fun _ => .slice (dropA oa oc k) (out.length - k) (oc - k)), ([14], fun l => l.headD undef), ([14], fun l => l.headD undef)])
            (by kernel_rfl) ⟨by kernel_rfl, ⟨FreeT.d_row0 _ rfl rfl 0 rfl (fun β bs w h hd => sort_e0 h ((hd 1 4 rfl).2 (.inl (by kernel_rfl))) ((hd 3 10 rfl).2 (.inl (by kernel_rfl))) ((hd 4 14 rfl).2 (.inl (by kernel_rfl)))),
              FreeT.d_hi _ rfl rfl (fun _ w => slice_hi (.inr rfl) hkc HC.out.len HC.out.big HC.out.none HC.out.spot w),
              FreeT.d_app _ rfl rfl 1 rfl (fun β bs ty w h hd => sort_e4 h ((hd 0 0 rfl).1 (by kernel_rfl)) ((hd 1 4 rfl).2 (.inr rfl)) ((hd 3 10 rfl).2 (.inl (by kernel_rfl))) ((hd 4 14 rfl).2 (.inl (by kernel_rfl))) HC1.out hk1 ty),
              FreeT.d_at _ rfl rfl (fun _ w => at_22 _ _ _ _ _ (by omega) w),
              FreeT.d_load _ rfl rfl (fun β bs w h hd => load_53 (hce.below (sort_b h) heb)),
              FreeT.d_row1 _ rfl rfl 2 rfl (fun β bs w h hd => sort_e9 h ((hd 2 9 rfl).2 (.inr rfl)) ((hd 3 10 rfl).2 (.inl (by kernel_rfl))) ((hd 4 14 rfl).2 (.inl (by kernel_rfl)))),
              FreeT.d_app _ rfl rfl 3 rfl (fun β bs ty w h hd => sort_e10 h ((hd 1 4 rfl).1 (by kernel_rfl)) ((hd 2 9 rfl).1 (by kernel_rfl)) ((hd 3 10 rfl).2 (.inr rfl)) ((hd 4 14 rfl).2 (.inl (by kernel_rfl))) ty),
              FreeT.d_lo _ rfl rfl (fun _ w => slice_lo (.inr rfl) hkn HC.out.len HC.out.big HC.out.none HC.out.spot w),
              FreeT.d_app _ rfl rfl 4 rfl (fun β bs ty w h hd => sort_e14 h ((hd 1 4 rfl).1 (by kernel_rfl)) ((hd 3 10 rfl).1 (by kernel_rfl)) ((hd 4 14 rfl).2 (.inr rfl)) HC2.out hk2 ty),
              trivial⟩,
              fun β => by kernel_rfl, fun β => by kernel_rfl, by kernel_rfl, fun β => by kernel_rfl, by kernel_rfl⟩ (sort_start (drew_below hb2)) (fun β => Free.from_ 32 [(β 0), .slice oa out.length oc, .int .i64 (k : Int), .slice oa k oc, (β 4), .slice (some ⟨eb, eo, none⟩) l.length c, .int .i64 (i : Int), .pointer (some ⟨eb, eo + i * 3, none⟩), e.v, (β 9), (β 10), .slice oa out.length oc, .int .i64 (k : Int), .slice (dropA oa oc k) (out.length - k) (oc - k), (β 14)] ++ [(3, (β 14))]) (fun β => by kernel_rfl) ?_
          intro β w4 h4
          rw [FreeX.puts_append, Free.puts_from _ _ _ (Nat.le_of_ble_eq_true rfl)]
          simp only [List.take_succ_cons, List.take_zero, List.drop_succ_cons, List.drop_zero, List.cons_append, List.nil_append, List.length_cons, List.length_nil, Nat.reduceAdd]
          unfold Free.puts
          simp only [List.foldl_cons, List.foldl_nil]
          obtain ⟨b4, o4⟩ := sort_end h4
          rw [HI.out] at o4
          have HO := Lib.hid (OwnE.lower o4 sz0)
          have HB := Lib.hid (hb.trans (b4.mono sz0))
          clear o4 b4 h4
          go_wp2
          go_roundw
          case rel => exact ⟨i + 1, by go_num, by omega, HO, HB⟩
          case measure => simp [intOf]; omega
        · rw [List.concat_eq_append] at *
          obtain ⟨kp, hkp⟩ : ∃ kp, k = kp + 1 := ⟨t.length, by simp at hk1; omega⟩
          have ekp : (k : Int) - 1 = (kp : Int) := by omega
          have gk : decide ((0 : Int) < (k : Int)) = true := decide_eq_true (by omega)
          have hko : kp < out.length := by simp at hls hk1; omega
          have hpo : out[kp]? = some p := by
            rw [← HX.out, List.append_assoc]
            have : t.length = kp := by simp at hk1; omega
            rw [← this]
            exact get_mid _ _ _
          obtain ⟨gb, go, rfl, hgb, hcp0⟩ := HC.out.e.at hko
          have hcp : EnAt wo gb (go + kp * 3) p := by
            have := (List.getElem?_eq_some_iff.1 hpo).2
            rw [this] at hcp0
            exact hcp0
          have HK : Hid (e.key.size ≤ 1000000 ∧ p.key.size ≤ 1000000) := Lib.hid ⟨hke, HKL.out p (List.mem_of_getElem? hpo)⟩
          clear hcp0 hpo
          cases hl : lt e.key p.key with
          | true =>
            go_wp2_with fail
            refine FreeS.region_puts (S := fun _ W => Below wo.heap.size wo W) (sts := [])
              (tab := [(1, [.int .i64 (k : Int), .int .i64 0], .bool true, .pure),
                (5, [.slice (some ⟨eb, eo, none⟩) l.length c, .int .i64 (i : Int)], .pointer (some ⟨eb, eo + i * 3, none⟩), .pure),
                (7, [.pointer (some ⟨eb, eo + i * 3, none⟩)], .string e.key, .read),
                (10, [.int .i64 (k : Int), .int .i64 1], .int .i64 (kp : Int), .pure),
                (11, [.slice (some ⟨gb, go, none⟩) out.length oc, .int .i64 (kp : Int)], .pointer (some ⟨gb, go + kp * 3, none⟩), .pure),
                (13, [.pointer (some ⟨gb, go + kp * 3, none⟩)], .string p.key, .read),
                (14, [.func (.func 29) #[] #[], .string e.key, .string p.key], .bool true, .call 29 [.string e.key, .string p.key])])
              (by kernel_rfl) ⟨by kernel_rfl, ⟨FreeS.d_bin _ rfl rfl (fun xo yo w => cmp_gtr3 xo yo w gk),
                FreeS.d_at _ rfl rfl (fun w => at_22 _ _ _ _ _ (by omega) w),
                FreeS.d_load _ rfl rfl (fun w h => load_9 (hce.below h heb).1),
                FreeS.d_bin _ rfl rfl (fun xo yo w => cmp_sub3 xo yo w ekp (by omega) (by omega)),
                FreeS.d_at _ rfl rfl (fun w => at_22 _ _ _ _ _ (by omega) w),
                FreeS.d_load _ rfl rfl (fun w h => load_9 (hcp.below h hgb).1),
                FreeS.d_call2 _ rfl rfl enter_29 (fun w h => less_keep hl HK.out.1 HK.out.2 h),
                trivial⟩,
                by kernel_rfl, by kernel_rfl, by kernel_rfl⟩ (drew_below hb2) (Free.from_ 14 [.int .i64 (k : Int), .bool true, .bool true, .slice (some ⟨eb, eo, none⟩) l.length c, .int .i64 (i : Int), .pointer (some ⟨eb, eo + i * 3, none⟩), .pointer (some ⟨eb, eo + i * 3, none⟩), .string e.key, .slice (some ⟨gb, go, none⟩) out.length oc, .int .i64 (k : Int), .int .i64 (kp : Int), .pointer (some ⟨gb, go + kp * 3, none⟩), .pointer (some ⟨gb, go + kp * 3, none⟩), .string p.key, .bool true, .bool true]) (by kernel_rfl) ?_
            intro w4 h4
            rw [Free.puts_from _ _ _ (Nat.le_of_ble_eq_true rfl)]
            simp only [List.take_succ_cons, List.take_zero, List.drop_succ_cons, List.drop_zero, List.cons_append, List.nil_append, List.length_cons, List.length_nil, Nat.reduceAdd]
            have HB4 := Lib.hid h4
            clear h4 hb2 hb hce hcp
            go_wp2
            go_roundw
            case rel => exact ⟨kp, t, p :: s2, rfl, by simp at hk1; omega, Lib.hid (by have := HX.out; simpa using this), by simp at hls ⊢; omega, Lib.hid (fun z hz => by
              rcases List.mem_cons.1 hz with rfl | hz
              · exact hl
              · exact HG.out z hz), HB4⟩
            case measure => simp [intOf]; omega
          | false =>
            go_wp2_with fail
            refine FreeS.region_puts (S := fun _ W => Below wo.heap.size wo W) (sts := [])
              (tab := [(1, [.int .i64 (k : Int), .int .i64 0], .bool true, .pure),
                (5, [.slice (some ⟨eb, eo, none⟩) l.length c, .int .i64 (i : Int)], .pointer (some ⟨eb, eo + i * 3, none⟩), .pure),
                (7, [.pointer (some ⟨eb, eo + i * 3, none⟩)], .string e.key, .read),
                (10, [.int .i64 (k : Int), .int .i64 1], .int .i64 (kp : Int), .pure),
                (11, [.slice (some ⟨gb, go, none⟩) out.length oc, .int .i64 (kp : Int)], .pointer (some ⟨gb, go + kp * 3, none⟩), .pure),
                (13, [.pointer (some ⟨gb, go + kp * 3, none⟩)], .string p.key, .read),
                (14, [.func (.func 29) #[] #[], .string e.key, .string p.key], .bool false, .call 29 [.string e.key, .string p.key])])
              (by kernel_rfl) ⟨by kernel_rfl, ⟨FreeS.d_bin _ rfl rfl (fun xo yo w => cmp_gtr3 xo yo w gk),
                FreeS.d_at _ rfl rfl (fun w => at_22 _ _ _ _ _ (by omega) w),
                FreeS.d_load _ rfl rfl (fun w h => load_9 (hce.below h heb).1),
                FreeS.d_bin _ rfl rfl (fun xo yo w => cmp_sub3 xo yo w ekp (by omega) (by omega)),
                FreeS.d_at _ rfl rfl (fun w => at_22 _ _ _ _ _ (by omega) w),
                FreeS.d_load _ rfl rfl (fun w h => load_9 (hcp.below h hgb).1),
                FreeS.d_call2 _ rfl rfl enter_29 (fun w h => less_keep hl HK.out.1 HK.out.2 h),
                trivial⟩,
                by kernel_rfl, by kernel_rfl, by kernel_rfl⟩ (drew_below hb2) (Free.from_ 14 [.int .i64 (k : Int), .bool true, .bool true, .slice (some ⟨eb, eo, none⟩) l.length c, .int .i64 (i : Int), .pointer (some ⟨eb, eo + i * 3, none⟩), .pointer (some ⟨eb, eo + i * 3, none⟩), .string e.key, .slice (some ⟨gb, go, none⟩) out.length oc, .int .i64 (k : Int), .int .i64 (kp : Int), .pointer (some ⟨gb, go + kp * 3, none⟩), .pointer (some ⟨gb, go + kp * 3, none⟩), .string p.key, .bool false, .bool false]) (by kernel_rfl) ?_
            intro w4 h4
            rw [Free.puts_from _ _ _ (Nat.le_of_ble_eq_true rfl)]
            simp only [List.take_succ_cons, List.take_zero, List.drop_succ_cons, List.drop_zero, List.cons_append, List.nil_append, List.length_cons, List.length_nil, Nat.reduceAdd]
            have hb2 := h4
            clear h4
            generalize hs1 : t ++ [p] = s1 at *
            have HLL : Hid (∀ z, s1.getLast? = some z → lt e.key z.key = false) := Lib.hid (by
              intro z hz
              rw [← hs1] at hz
              simp at hz
              rw [← hz]
              exact hl)
            clear hs1
            have HC1 : Hid (Cut wo (some ⟨gb, go, none⟩) s1 oc) := Lib.hid (by have := HC.out.take k; rwa [← HX.out, ← hk1, List.take_left] at this)
            have HC2 : Hid (Cut wo (dropA (some ⟨gb, go, none⟩) oc k) s2 (oc - k)) := Lib.hid (by have h9 := HC.out.drop (k := s1.length) (by omega); rw [← HX.out, List.drop_left] at h9; rw [← hk1]; exact h9)
            have hkn : k ≤ out.length := by omega
            have hkc : k ≤ oc := Nat.le_trans hkn HC.out.len
            have HI : Hid (s1 ++ e :: s2 = sortL (l.take (i + 1))) := Lib.hid (by rw [sort_take h1', HS.out, ← HX.out, HEI.out]; exact (ins_at HG.out (HLL.out) (by rw [HX.out]; exact HU.out)).symm)
            go_wp2_with fail
            refine FreeT.region_puts (S := SortS wo s1 s2 e) (effs := [0, 4, 9, 10, 14])
              (tab := [⟨0, fun _ => [], fun β => (β 0), .eff⟩,
                ⟨3, fun _ => [.slice (some ⟨gb, go, none⟩) out.length oc, .int .i64 (k : Int)], fun _ => .slice (some ⟨gb, go, none⟩) k oc, .pure⟩,
                ⟨4, fun β => [(β 0), .slice (some ⟨gb, go, none⟩) k oc], fun β => (β 4), .eff⟩,
                ⟨7, fun _ => [.slice (some ⟨eb, eo, none⟩) l.length c, .int .i64 (i : Int)], fun _ => .pointer (some ⟨eb, eo + i * 3, none⟩), .pure⟩,
                ⟨8, fun _ => [.pointer (some ⟨eb, eo + i * 3, none⟩)], fun _ => e.v, .read⟩,
                ⟨9, fun _ => [e.v], fun β => (β 9), .eff⟩,
                ⟨10, fun β => [(β 4), (β 9)], fun β => (β 10), .eff⟩,
                ⟨13, fun _ => [.slice (some ⟨gb, go, none⟩) out.length oc, .int .i64 (k : Int)], fun _ => .slice (dropA (some ⟨gb, go, none⟩) oc k) (out.length - k) (oc - k), .pure⟩,
                ⟨14, fun β => [(β 10), .slice (dropA (some ⟨gb, go, none⟩) oc k) (out.length - k) (oc - k)], fun β => (β 14), .eff⟩])
              (vs := [([0], fun l => l.headD undef), ([], fun _ => .slice (some ⟨gb, go, none⟩) out.length oc), ([], fun _ => .int .i64 (k : Int)), ([], fun _ => .slice (some ⟨gb, go, none⟩) k oc), ([4], fun l => l.headD undef), ([], fun _ => .slice (some ⟨eb, eo, none⟩) l.length c), ([], fun _ => .int .i64 (i : Int)), ([], fun _ => .pointer (some ⟨eb, eo + i * 3, none⟩)), ([], fun _ => e.v), ([9], fun l => l.headD undef), ([10], fun l => l.headD undef), ([], fun _ => .slice (some ⟨gb, go, none⟩) out.length oc), ([], fun _ => .int .i64 (k : Int)), ([], fun _ => .slice (dropA (some ⟨gb, go, none⟩) oc k) (out.length - k) (oc - k)), ([14], fun l => l.headD undef), ([14], fun l => l.headD undef)])
              (by kernel_rfl) ⟨by kernel_rfl, ⟨FreeT.d_row0 _ rfl rfl 0 rfl (fun β bs w h hd => sort_e0 h ((hd 1 4 rfl).2 (.inl (by kernel_rfl))) ((hd 3 10 rfl).2 (.inl (by kernel_rfl))) ((hd 4 14 rfl).2 (.inl (by kernel_rfl)))),
                FreeT.d_hi _ rfl rfl (fun _ w => slice_hi (.inr rfl) hkc HC.out.len HC.out.big HC.out.none HC.out.spot w),
                FreeT.d_app _ rfl rfl 1 rfl (fun β bs ty w h hd => sort_e4 h ((hd 0 0 rfl).1 (by kernel_rfl)) ((hd 1 4 rfl).2 (.inr rfl)) ((hd 3 10 rfl).2 (.inl (by kernel_rfl))) ((hd 4 14 rfl).2 (.inl (by kernel_rfl))) HC1.out hk1 ty),
                FreeT.d_at _ rfl rfl (fun _ w => at_22 _ _ _ _ _ (by omega) w),
                FreeT.d_load _ rfl rfl (fun β bs w h hd => load_53 (hce.below (sort_b h) heb)),
                FreeT.d_row1 _ rfl rfl 2 rfl (fun β bs w h hd => sort_e9 h ((hd 2 9 rfl).2 (.inr rfl)) ((hd 3 10 rfl).2 (.inl (by kernel_rfl))) ((hd 4 14 rfl).2 (.inl (by kernel_rfl)))),
                FreeT.d_app _ rfl rfl 3 rfl (fun β bs ty w h hd => sort_e10 h ((hd 1 4 rfl).1 (by kernel_rfl)) ((hd 2 9 rfl).1 (by kernel_rfl)) ((hd 3 10 rfl).2 (.inr rfl)) ((hd 4 14 rfl).2 (.inl (by kernel_rfl))) ty),
                FreeT.d_lo _ rfl rfl (fun _ w => slice_lo (.inr rfl) hkn HC.out.len HC.out.big HC.out.none HC.out.spot w),
                FreeT.d_app _ rfl rfl 4 rfl (fun β bs ty w h hd => sort_e14 h ((hd 1 4 rfl).1 (by kernel_rfl)) ((hd 3 10 rfl).1 (by kernel_rfl)) ((hd 4 14 rfl).2 (.inr rfl)) HC2.out hk2 ty),
                trivial⟩,
                fun β => by kernel_rfl, fun β => by kernel_rfl, by kernel_rfl, fun β => by kernel_rfl, by kernel_rfl⟩ (sort_start (drew_below hb2)) (fun β => Free.from_ 32 [(β 0), .slice (some ⟨gb, go, none⟩) out.length oc, .int .i64 (k : Int), .slice (some ⟨gb, go, none⟩) k oc, (β 4), .slice (some ⟨eb, eo, none⟩) l.length c, .int .i64 (i : Int), .pointer (some ⟨eb, eo + i * 3, none⟩), e.v, (β 9), (β 10), .slice (some ⟨gb, go, none⟩) out.length oc, .int .i64 (k : Int), .slice (dropA (some ⟨gb, go, none⟩) oc k) (out.length - k) (oc - k), (β 14)] ++ [(3, (β 14))]) (fun β => by kernel_rfl) ?_
            intro β w4 h4
            rw [FreeX.puts_append, Free.puts_from _ _ _ (Nat.le_of_ble_eq_true rfl)]
            simp only [List.take_succ_cons, List.take_zero, List.drop_succ_cons, List.drop_zero, List.cons_append, List.nil_append, List.length_cons, List.length_nil, Nat.reduceAdd]
            unfold Free.puts
            simp only [List.foldl_cons, List.foldl_nil]
            obtain ⟨b4, o4⟩ := sort_end h4
            rw [HI.out] at o4
            have HO := Lib.hid (OwnE.lower o4 sz0)
            have HB := Lib.hid (hb.trans (b4.mono sz0))
            clear o4 b4 h4
            go_wp2
            go_roundw
            case rel => exact ⟨i + 1, by go_num, by omega, HO, HB⟩
            case measure => simp [intOf]; omega
    · obtain rfl : i = l.length := by omega
      have i1 : ¬ (l.length : Int) < (l.length : Int) := by omega
      rw [List.take_length] at hown
      have HF := Lib.hid hown
      clear hown hb
      go_wp2
      go_ret
      exact ⟨_, rfl, HF.out, HB.out⟩
end Go.Proofs.Ythglldnhffkefaa
