/- The law's nodes, and which of them the reference calls empty. Condition: at most 1000 nodes. -/
import Derived.Test.YtjlifkhpohfiaaaEa
import Derived.Test.YtjlifkhpohfiaaaLb
namespace Go.Proofs.Ytjlifkhpohfiaaa
open Go.RowKit Go.Op
set_option maxRecDepth 100000

/-- The reference's nodes: version, rate, how many keys live. -/
abbrev Nr := Int × Int × Nat
def ndc (x : Nr) : List Value := [.int .i64 x.1, .int .i64 x.2.1, .int .i64 (x.2.2 : Int)]
def ndv (v r : Int) (l : Nat) : Value := .agg #[.int .i64 v, .int .i64 r, .int .i64 (l : Int)]
def ndRow (l : List Nr) : List Value := l.flatMap ndc
theorem ndc_one (x : Nr) : ∀ u ∈ ndc x, u.oneCell' = true := by intro u hu; simp [ndc] at hu; rcases hu with rfl | rfl | rfl <;> rfl
theorem ndRow_snoc (l : List Nr) (x : Nr) : ndRow (l ++ [x]) = ndRow l ++ ndc x := by simp [ndRow]
theorem build_94 (v r : Int) (l : Nat) (w : World) : (Instr.build 94 #[(0, .int .i64 v), (1, .int .i64 r), (2, .int .i64 (l : Int))]).run Try.prog w = .ok (ndv v r l) w := by
  unfold ndv
  go_simp
theorem row62 (w : World) (v r : Int) (l : Nat) : (Instr.buildSlice 62 1 #[(0, ndv v r l)]).run Try.prog w = .ok (.slice (some ⟨w.heap.size, 0, none⟩) 1 1) (w.alloc (.cells (ndc (v, r, l)).toArray 94)) := by
  unfold ndv ndc
  go_simp
theorem sk62 : SK 62 94 3 := sk_of (bytes := 24) (z := .agg #[.int .i64 0, .int .i64 0, .int .i64 0]) Try.underlying62 (by kernel_rfl) rfl (by decide) (by decide)
theorem at_62 (g o n cp k : Nat) (h : k < n) (w : World) : (Instr.indexAt 62 (.slice (some ⟨g, o, none⟩) n cp) (.int .i64 (k : Int))).run Try.prog w = .ok (.pointer (some ⟨g, o + k * 3, none⟩)) w := by
  have h1 : (k : Int) < (n : Int) := by omega
  go_simp
theorem rem70 {b : Nat} (h : b < 256) {xo : Operand} (w : World) : (eqGuard .rem 3 xo (.const (.int .i64 70)) (.int .i64 (b : Int)) (.int .i64 70)).run Try.prog w = .ok () w ∧ (binOp .rem 3 (.int .i64 (b : Int)) (.int .i64 70)).run Try.prog w = .ok (.int .i64 ((b % 70 : Nat) : Int)) w := by
  have e : (b : Int).tmod 70 = ((b % 70 : Nat) : Int) := by rw [Int.tmod_eq_emod_of_nonneg (by omega)]; omega
  exact ⟨rfl, by simp [binOp, go_sem, e]⟩
def ndI (x : Spc) : Nr := ((x.ver : Int), 16 * (x.rate : Int), x.live % 70)
def ndL (l : List Spc) (k : Nat) : List Nr := (l.take k).map ndI
theorem ndL_succ (l : List Spc) (k : Nat) (x : Spc) (h : l[k]? = some x) : ndL l (k + 1) = ndL l k ++ [ndI x] := by
  unfold ndL
  rw [List.take_add_one, h]; simp
def nD (N : List Nr) : List (Int × Nat) := N.map fun x => (x.1, x.2.2)
set_option maxHeartbeats 800000 in
theorem nodes_any (w : World) (a : Option Addr) (cap : Nat) (l : List Spc) (h : Specs w a l) (hl : l.length ≤ 1000) :
    Calls Try.prog 23 #[.slice a l.length cap] w fun e w' => ∃ ta tc, e = .returned (.slice ta l.length tc) ∧ RowAt w' ta (ndRow (ndL l l.length)) ∧ Below w.heap.size w w' := by
  obtain ⟨n, hn⟩ : ∃ n, n = l.length := ⟨_, rfl⟩
  have HN := Lib.hid hn
  have HR := Lib.hid h
  rw [← hn] at hl ⊢
  have hn2 : (n : Int) ≤ 1000 := by omega
  have mixed : Try.prog.follows .mixedOrders = true := by kernel_rfl
  clear hn h
  obtain ⟨B0, hB0⟩ : ∃ B, B = w.heap.size := ⟨_, rfl⟩
  have HB := Lib.hid hB0
  clear hB0
  go_enter Try.func23, Try.ntmps23
  go_wp2_with fail
  go_loopw [3, 4] (fun ov iv wr => ∃ (i : Nat) (oa : Option Addr) (oc : Nat) (R : List Nr), iv = .int .i64 (i : Int) ∧ ov = .slice oa i oc ∧ i ≤ n ∧ Hid (R = ndL l i ∧ Below B0 w wr ∧ wr.ownsRow B0 94 3 (.slice oa i oc) i (ndRow R))) (fun _ iv _ => n - (intOf iv).toNat)
  case atStart => exact ⟨0, none, 0, [], rfl, rfl, Nat.zero_le _, Lib.hid ⟨by simp [ndL], by rw [HB.out]; exact Below.refl _ _, World.ownsRow_nil _ _ _ _⟩⟩
  case round =>
    obtain ⟨i, oa, oc, R, rfl, rfl, hi, HX⟩ := hrel
    by_cases hlt : i < n
    · have hlt2 : (i : Int) < (n : Int) := by omega
      obtain ⟨x, hx⟩ : ∃ x, l[i]? = some x := ⟨_, List.getElem?_eq_getElem (by rw [← HN.out]; exact hlt)⟩
      have hbw : Below w.heap.size w wr := by rw [← HB.out]; exact HX.out.2.1
      obtain ⟨g, o, ea, hg, hr⟩ := (HR.out.later hbw).at_ hx
      have hok := HR.out.ok x (List.mem_of_getElem? hx)
      have HS5 : Hid (∀ W, Below wr.heap.size wr W → W.rangeAt g (o + i * 6) x.cells) := Lib.hid fun W hW => rangeAt_same hr (hW.block g hg)
      have HO : Hid (wr.ownsRow B0 94 3 (.slice oa i oc) i (ndRow R) ∧ B0 ≤ wr.heap.size) := Lib.hid ⟨HX.out.2.2, by rw [HB.out]; exact hbw.size⟩
      have HK : Hid (i < n ∧ i + 1 ≤ 1000000 ∧ x.Ok) := Lib.hid ⟨hlt, by omega, hok⟩
      have HE : Hid (∀ (W : World) (a' : Option Addr) (c' : Nat), Below B0 wr W → W.ownsRow B0 94 3 (.slice a' (i + 1) c') (i + 1) (ndRow R ++ ndc (ndI x)) → Hid (R ++ [ndI x] = ndL l (i + 1) ∧ Below B0 w W ∧ W.ownsRow B0 94 3 (.slice a' (i + 1) c') (i + 1) (ndRow (R ++ [ndI x])))) := Lib.hid fun W a' c' h1 h2 =>
        Lib.hid ⟨by rw [ndL_succ l i x hx, ← HX.out.1], HX.out.2.1.trans h1, by rw [ndRow_snoc]; exact h2⟩
      subst ea
      clear hx hbw hg hr HX hok
      go_wp2_with fail
      refine FreeV.region_puts (S := SGL wr [(22, FRow (ndc (ndI x)))] 1 (PApp wr B0 94 3 23 i (ndRow R ++ ndc (ndI x)))) (effs := [22, 23])
        (tab := [⟨3, fun _ => [.slice (some ⟨g, o, none⟩) n cap, .int .i64 (i : Int)], fun _ => .pointer (some ⟨g, o + i * 6, none⟩), .pure⟩,
          ⟨5, fun _ => [.pointer (some ⟨g, o + i * 6 + 1, none⟩)], fun _ => .int .u8 (x.ver : Int), .read⟩,
          ⟨6, fun _ => [.int .u8 (x.ver : Int)], fun _ => .int .i64 (x.ver : Int), .pure⟩,
          ⟨9, fun _ => [.slice (some ⟨g, o, none⟩) n cap, .int .i64 (i : Int)], fun _ => .pointer (some ⟨g, o + i * 6, none⟩), .pure⟩,
          ⟨11, fun _ => [.pointer (some ⟨g, o + i * 6 + 2, none⟩)], fun _ => .int .u8 (x.rate : Int), .read⟩,
          ⟨12, fun _ => [.int .u8 (x.rate : Int)], fun _ => .int .i64 (x.rate : Int), .pure⟩,
          ⟨13, fun _ => [.int .i64 16, .int .i64 (x.rate : Int)], fun _ => .int .i64 (16 * (x.rate : Int)), .pure⟩,
          ⟨16, fun _ => [.slice (some ⟨g, o, none⟩) n cap, .int .i64 (i : Int)], fun _ => .pointer (some ⟨g, o + i * 6, none⟩), .pure⟩,
          ⟨18, fun _ => [.pointer (some ⟨g, o + i * 6 + 3, none⟩)], fun _ => .int .u8 (x.live : Int), .read⟩,
          ⟨19, fun _ => [.int .u8 (x.live : Int)], fun _ => .int .i64 (x.live : Int), .pure⟩,
          ⟨20, fun _ => [.int .i64 (x.live : Int), .int .i64 70], fun _ => .int .i64 ((x.live % 70 : Nat) : Int), .pure⟩,
          ⟨21, fun _ => [.int .i64 (x.ver : Int), .int .i64 (16 * (x.rate : Int)), .int .i64 ((x.live % 70 : Nat) : Int)], fun _ => (ndv (x.ver : Int) (16 * (x.rate : Int)) (x.live % 70)), .read⟩,
          ⟨22, fun _ => [(ndv (x.ver : Int) (16 * (x.rate : Int)) (x.live % 70))], fun β => (β 22), .eff⟩,
          ⟨23, fun β => [.slice oa i oc, (β 22)], fun β => (β 23), .eff⟩])
        (vs := [([], fun _ => .slice oa i oc), ([], fun _ => .slice (some ⟨g, o, none⟩) n cap), ([], fun _ => .int .i64 (i : Int)), ([], fun _ => .pointer (some ⟨g, o + i * 6, none⟩)), ([], fun _ => .pointer (some ⟨g, o + i * 6 + 1, none⟩)), ([], fun _ => .int .u8 (x.ver : Int)), ([], fun _ => .int .i64 (x.ver : Int)), ([], fun _ => .slice (some ⟨g, o, none⟩) n cap), ([], fun _ => .int .i64 (i : Int)), ([], fun _ => .pointer (some ⟨g, o + i * 6, none⟩)), ([], fun _ => .pointer (some ⟨g, o + i * 6 + 2, none⟩)), ([], fun _ => .int .u8 (x.rate : Int)), ([], fun _ => .int .i64 (x.rate : Int)), ([], fun _ => .int .i64 (16 * (x.rate : Int))), ([], fun _ => .slice (some ⟨g, o, none⟩) n cap), ([], fun _ => .int .i64 (i : Int)), ([], fun _ => .pointer (some ⟨g, o + i * 6, none⟩)), ([], fun _ => .pointer (some ⟨g, o + i * 6 + 3, none⟩)), ([], fun _ => .int .u8 (x.live : Int)), ([], fun _ => .int .i64 (x.live : Int)), ([], fun _ => .int .i64 ((x.live % 70 : Nat) : Int)), ([], fun _ => (ndv (x.ver : Int) (16 * (x.rate : Int)) (x.live % 70))), ([22], fun l => (l.headD undef)), ([23], fun l => (l.headD undef)), ([23], fun l => (l.headD undef))])
        (by kernel_rfl) ⟨by kernel_rfl, ⟨FreeV.d_at _ rfl rfl (fun _ W => at_22 g o n cap i HK.out.1 W),
          FreeV.d_load _ rfl rfl (fun β bs W hS hd => load_5 ((HS5.out W (hS.bel ((hd 1 23 rfl).2 (.inl (by kernel_rfl))))) 1 _ rfl)),
          d_conv rfl rfl (fun _ W => conv53 HK.out.2.2.2.1 W),
          FreeV.d_at _ rfl rfl (fun _ W => at_22 g o n cap i HK.out.1 W),
          FreeV.d_load _ rfl rfl (fun β bs W hS hd => load_5 ((HS5.out W (hS.bel ((hd 1 23 rfl).2 (.inl (by kernel_rfl))))) 2 _ rfl)),
          d_conv rfl rfl (fun _ W => conv53 HK.out.2.2.2.2.1 W),
          d_binr rfl rfl (fun _ xo W => mul16 HK.out.2.2.2.2.1 W),
          FreeV.d_at _ rfl rfl (fun _ W => at_22 g o n cap i HK.out.1 W),
          FreeV.d_load _ rfl rfl (fun β bs W hS hd => load_5 ((HS5.out W (hS.bel ((hd 1 23 rfl).2 (.inl (by kernel_rfl))))) 3 _ rfl)),
          d_conv rfl rfl (fun _ W => conv53 HK.out.2.2.2.2.2 W),
          FreeV.d_binc _ rfl rfl (fun _ xo W => rem70 HK.out.2.2.2.2.2 W),
          d_build3 rfl rfl (fun β bs W hS hd => build_94 _ _ _ W),
          FreeV.d_row1 _ rfl rfl 0 rfl (fun β bs W hS hd => ⟨_, _, row62 W _ _ _, hS.step ((hd 1 23 rfl).2 (.inl (by kernel_rfl))) (by decide) rfl (al_below _ _) (frow_new W _ 94)⟩),
          FreeV.d_app _ rfl rfl 1 rfl (fun β bs ty W hS hd => app_last sk62 hS ((hd 1 23 rfl).2 (.inr rfl)) ((hd 0 22 rfl).1 (by kernel_rfl)) HO.out (ndc_one _) rfl HK.out.2.1 (by decide) ty),
          trivial⟩,
          fun β => by kernel_rfl, fun β => by kernel_rfl, by kernel_rfl, fun β => by kernel_rfl, by kernel_rfl⟩ (SGL.start 2 (by decide) (st1 (frow_st _)) (by simp)) (fun β => Free.from_ 11 [.slice oa i oc, .slice (some ⟨g, o, none⟩) n cap, .int .i64 (i : Int), .pointer (some ⟨g, o + i * 6, none⟩), .pointer (some ⟨g, o + i * 6 + 1, none⟩), .int .u8 (x.ver : Int), .int .i64 (x.ver : Int), .slice (some ⟨g, o, none⟩) n cap, .int .i64 (i : Int), .pointer (some ⟨g, o + i * 6, none⟩), .pointer (some ⟨g, o + i * 6 + 2, none⟩), .int .u8 (x.rate : Int), .int .i64 (x.rate : Int), .int .i64 (16 * (x.rate : Int)), .slice (some ⟨g, o, none⟩) n cap, .int .i64 (i : Int), .pointer (some ⟨g, o + i * 6, none⟩), .pointer (some ⟨g, o + i * 6 + 3, none⟩), .int .u8 (x.live : Int), .int .i64 (x.live : Int), .int .i64 ((x.live % 70 : Nat) : Int), (ndv (x.ver : Int) (16 * (x.rate : Int)) (x.live % 70)), (β 22), (β 23)] ++ [(3, (β 23))]) (fun β => by kernel_rfl) ?_
      intro β w4 h4
      rw [FreeX.puts_append, Free.puts_from _ _ _ (Nat.le_of_ble_eq_true rfl)]
      simp only [List.take_succ_cons, List.take_zero, List.drop_succ_cons, List.drop_zero, List.cons_append, List.nil_append, List.length_cons, List.length_nil, Nat.reduceAdd]
      unfold Free.puts
      simp only [List.foldl_cons, List.foldl_nil]
      obtain ⟨a', c', e16, hO, hB⟩ := h4.fin rfl
      rw [e16]
      have HX3 := HE.out w4 a' c' hB hO
      clear h4 e16 hO hB HE HS5 HO HK
      go_wp2_with fail
      first
        | exact ⟨⟨i + 1, a', c', _, by simp, rfl, by omega, HX3⟩, by simp only [intOf]; omega⟩
        | (go_roundw
           case rel => exact ⟨i + 1, a', c', _, by simp, rfl, by omega, HX3⟩
           case measure => simp [intOf]; omega)
    · have hlt2 : ¬ (i : Int) < (n : Int) := by omega
      obtain rfl : i = n := by omega
      have HE : Hid (RowAt wr oa (ndRow (ndL l i)) ∧ Below w.heap.size w wr) := by
        obtain ⟨q1, q2, q3⟩ := HX.out
        obtain ⟨a', c', e, -, h3⟩ := own_row q3
        cases e
        rw [q1] at h3
        rw [HB.out] at q2
        exact Lib.hid ⟨h3, q2⟩
      clear HX
      go_wp2_with fail
      go_ret
      exact ⟨oa, ⟨oc, rfl⟩, HE.out⟩
theorem nD_length (N : List Nr) : (nD N).length = N.length := by simp [nD]
/-- Those between two places all go: both have old words, or neither. -/
theorem back_old {D : List (Int × Nat)} {lt : Int} {p i : Nat} {y z : Int × Nat} (hp : p < i) (h : ∀ m, p < m → m < i → gB D lt m = true) (hy : D[p]? = some y) (hz : D[i-1]? = some z) : decide (y.1 ≤ lt) = decide (z.1 ≤ lt) := by
  by_cases e : p = i - 1
  · subst e
    rw [hy] at hz
    cases hz
    rfl
  have h1 := h (i - 1) (by omega) (by omega)
  have h2 := h (p + 1) (by omega) (by omega)
  unfold gB at h1 h2
  rw [hz] at h1
  rw [show p + 1 - 1 = p by omega, hy] at h2
  have e1 : decide (z.1 ≤ lt) = true := by
    split at h1
    · rename_i a b ha hb
      cases ha
      simp only [Bool.and_eq_true] at h1
      exact h1.2.2.1
    · cases h1
  have e2 : decide (y.1 ≤ lt) = true := by
    split at h2
    · rename_i a b ha hb
      cases hb
      simp only [Bool.and_eq_true] at h2
      exact h2.2.1
    · cases h2
  rw [e1, e2]
set_option maxHeartbeats 800000 in
theorem refEmpties_any (w : World) (a : Option Addr) (cap : Nat) (N : List Nr) (hl : N.length ≤ 1000) (h : RowAt w a (ndRow N)) (hv : ∀ x, x ∈ N → x.2.2 ≤ 1000000) (lt : Int) :
    Calls Try.prog 22 #[.slice a N.length cap, .int .i64 lt] w fun e w' => ∃ g, e = .returned (.slice (some ⟨g, 0, none⟩) N.length N.length) ∧ w'.ownsRow w.heap.size 4 1 (.slice (some ⟨g, 0, none⟩) N.length N.length) N.length (bls (gL (nD N) lt)) ∧ Below w.heap.size w w' := by
  obtain ⟨n, hn⟩ : ∃ n, n = N.length := ⟨_, rfl⟩
  have HV := Lib.hid (⟨h, hv⟩ : _ ∧ _)
  have HN := Lib.hid hn
  rw [← hn] at hl ⊢
  have hn2 : (n : Int) ≤ 1000 := by omega
  clear h hv hn
  have hDn : (nD N).length = n := by rw [HN.out, nD_length]
  have HD := Lib.hid hDn
  clear hDn
  obtain ⟨W, hmk, ho, hb⟩ := made_bls w n (by omega)
  obtain ⟨gt, hgt⟩ : ∃ g, g = w.heap.size := ⟨_, rfl⟩
  rw [← hgt] at hmk ho
  have HG := Lib.hid hgt
  clear hgt
  have h00 : 1 ≤ n → Hid (gB (nD N) lt 0 = false) := fun _ => Lib.hid (by unfold gB; split <;> rfl)
  go_enter Try.func22, Try.ntmps22
  go_wp2_with fail
  go_loopw [6] (fun iv wr => ∃ (i : Nat) (xs : List Bool), iv = .int .i64 (i : Int) ∧ 1 ≤ i ∧ i ≤ n + 1 ∧ Hid (Below w.heap.size w wr ∧ wr.ownsRow gt 4 1 (.slice (some ⟨gt, 0, none⟩) n n) n (bls xs) ∧ xs.length = n ∧ ∀ k, k < i → k < n → xs[k]? = some (gB (nD N) lt k))) (fun iv _ => n + 1 - (intOf iv).toNat)
  case atStart => exact ⟨1, List.replicate n false, rfl, Nat.le_refl _, by omega, Lib.hid ⟨hb.out, ho.out, by simp, fun k hk hkn => by
    obtain rfl : k = 0 := by omega
    rw [(h00 (by omega)).out]; simp [List.getElem?_replicate]; omega⟩⟩
  case round =>
    obtain ⟨i, xs, rfl, hi1, hi, HX⟩ := hrel
    obtain ⟨wo, hwo⟩ : ∃ wo, wo = wr := ⟨_, rfl⟩
    subst hwo
    by_cases hlt : i < n
    · have hlt2 : (i : Int) < (n : Int) := by omega
      obtain ⟨p0, hp0⟩ : ∃ p, p + 1 = i := ⟨i - 1, by omega⟩
      have hpi : (i : Int) - 1 = (p0 : Int) := by omega
      have HP := Lib.hid hpi
      clear hpi
      go_wp2_with (first | rw [HP.out] | fail)
      go_loopw [7] (fun jv W => ∃ p : Nat, jv = .int .i64 (p : Int) ∧ p < i ∧ wo = W ∧ Hid (∀ m, p < m → m < i → gB (nD N) lt m = true)) (fun jv _ => (intOf jv).toNat)
      case atStart => exact ⟨p0, by first | rfl | rw [HP.out], by omega, rfl, Lib.hid fun m h1 h2 => by omega⟩
      case round =>
        obtain ⟨p, rfl, hp, rfl, HY⟩ := hrel
        have cp : wo.cell? ⟨gt, p, none⟩ = some (.bool (gB (nD N) lt p)) := by
          rw [HX.out.2.1.cellAt p (by omega)]
          exact bls_get (HX.out.2.2.2 p hp (by omega))
        have hatp : ∀ W, (Instr.indexAt 48 (.slice (some ⟨gt, 0, none⟩) n n) (.int .i64 (p : Int))).run Try.prog W = .ok (.pointer (some ⟨gt, p, none⟩)) W := fun W => at_48_0 gt n n p (by omega) W
        obtain ⟨bp, hbp⟩ : ∃ b, b = gB (nD N) lt p := ⟨_, rfl⟩
        rw [← hbp] at cp
        by_cases hgo : 0 < p ∧ bp = true
        · have hp1 : (0 : Int) < (p : Int) := by omega
          obtain ⟨h1, rfl⟩ := hgo
          have HY2 : Hid (∀ m, p - 1 < m → m < i → gB (nD N) lt m = true) := Lib.hid fun m h1 h2 => by
            by_cases e : m = p
            · rw [e, ← hbp]
            · exact HY.out m (by omega) h2
          have hpp : (p : Int) - 1 = ((p - 1 : Nat) : Int) := by omega
          have HPp := Lib.hid hpp
          clear hbp HY hpp
          go_wp2_with fail
          first
            | exact ⟨⟨p - 1, by simp only [Value.int.injEq, true_and]; exact HPp.out, by omega, by first | rfl | trivial, HY2⟩, by simp only [intOf]; omega⟩
            | (go_roundw
               case rel => exact ⟨p - 1, by simp only [Value.int.injEq, true_and]; exact HPp.out, by omega, by first | rfl | trivial, HY2⟩
               case measure => simp [intOf]; omega)
        · obtain ⟨y, hy⟩ : ∃ y, N[p]? = some y := ⟨_, List.getElem?_eq_getElem (by rw [← HN.out]; omega)⟩
          obtain ⟨x, hx⟩ : ∃ x, N[i]? = some x := ⟨_, List.getElem?_eq_getElem (by rw [← HN.out]; omega)⟩
          obtain ⟨z, hz⟩ : ∃ z, N[i-1]? = some z := ⟨_, List.getElem?_eq_getElem (by rw [← HN.out]; omega)⟩
          obtain ⟨g, o, ea, hg, hr⟩ := RowAt.part (f := ndc) (n := 3) (fun _ => rfl) (by decide) (HV.out.1.later HX.out.1) hx
          obtain ⟨g', o', ea', hg', hr'⟩ := RowAt.part (f := ndc) (n := 3) (fun _ => rfl) (by decide) (HV.out.1.later HX.out.1) hy
          have hat : ∀ W, (Instr.indexAt 62 (.slice a n cap) (.int .i64 (i : Int))).run Try.prog W = .ok (.pointer (some ⟨g, o + i * 3, none⟩)) W := fun W => by rw [ea]; exact at_62 g o n cap i hlt W
          have haty : ∀ W, (Instr.indexAt 62 (.slice a n cap) (.int .i64 (p : Int))).run Try.prog W = .ok (.pointer (some ⟨g', o' + p * 3, none⟩)) W := fun W => by rw [ea']; exact at_62 g' o' n cap p (by omega) W
          have hat2 : ∀ W, (Instr.indexAt 48 (.slice (some ⟨gt, 0, none⟩) n n) (.int .i64 (i : Int))).run Try.prog W = .ok (.pointer (some ⟨gt, i, none⟩)) W := fun W => at_48_0 gt n n i hlt W
          have cx0 := hr 0 _ rfl
          have cx2 := hr 2 _ rfl
          have cy0 := hr' 0 _ rfl
          rw [Nat.add_zero] at cx0 cy0
          have hix : i < xs.length := by rw [HX.out.2.2.1]; exact hlt
          obtain ⟨ux, hux⟩ : ∃ u, xs[i]? = some u := ⟨_, List.getElem?_eq_getElem hix⟩
          have ct : wo.cell? ⟨gt, i, none⟩ = some (.bool ux) := by
            rw [HX.out.2.1.cellAt i (by omega)]
            exact bls_get hux
          have ft := HX.out.2.1.frozenAt i
          have HE : Hid (gB (nD N) lt i = (decide (y.1 ≤ lt) && (decide (x.1 ≤ lt) && decide (x.2.2 = 0)))) := Lib.hid (by
            have e1 : (nD N)[i]? = some (x.1, x.2.2) := by simp [nD, hx]
            have e2 : (nD N)[i-1]? = some (z.1, z.2.2) := by simp [nD, hz]
            have e3 : (nD N)[p]? = some (y.1, y.2.2) := by simp [nD, hy]
            have e4 := back_old hp HY.out e3 e2
            unfold gB
            rw [e1, e2, decide_eq_true (show 0 < i by omega)]
            show (true && (decide (z.1 ≤ lt) && (decide (x.1 ≤ lt) && decide (x.2.2 = 0)))) = _
            rw [e4]; rfl)
          have HX2 : Hid (∀ b, b = gB (nD N) lt i → ∃ ys : List Bool, Below w.heap.size w (wo.setCell ⟨gt, i, none⟩ (.bool b)) ∧ (wo.setCell ⟨gt, i, none⟩ (.bool b)).ownsRow gt 4 1 (.slice (some ⟨gt, 0, none⟩) n n) n (bls ys) ∧ ys.length = n ∧ ∀ k, k < i + 1 → k < n → ys[k]? = some (gB (nD N) lt k)) := Lib.hid fun b hb => by
            have hb3 : But gt wo (wo.setCell ⟨gt, i, none⟩ (.bool b)) := (But.refl gt wo).set _ _
            refine ⟨xs.set i b, HX.out.1.trans (hb3.below (by rw [HG.out]; exact Nat.le_refl _) HX.out.1.size), ?_, by rw [List.length_set]; exact HX.out.2.2.1, fun k hk hkn => ?_⟩
            · have e : bls (xs.set i b) = (bls xs).set i (.bool b) := by simp [bls, List.map_set]
              rw [e]; exact (HX.out.2.1.stored i (.bool b)).1
            · by_cases e : k = i
              · subst e
                rw [List.getElem?_set_self hix, hb]
              · rw [List.getElem?_set_ne (fun e2 => e e2.symm)]
                exact HX.out.2.2.2 k (by omega) hkn
          have hL : x.2.2 ≤ 1000000 := HV.out.2 x (List.mem_of_getElem? hx)
          obtain ⟨x1, x2, L⟩ := x
          obtain ⟨y1, y2, y3⟩ := y
          simp only at cx0 cx2 cy0 HE hL
          clear hx hy hz hg hr hg' hr' ea ea' hix hux HY HX hb ho hmk h00 hbp
          rcases Nat.eq_zero_or_pos p with hpz | hpz
          · subst hpz
            have haty0 : ∀ W, (Instr.indexAt 62 (.slice a n cap) (.int .i64 0)).run Try.prog W = .ok (.pointer (some ⟨g', o', none⟩)) W := fun W => by have := haty W; simpa using this
            rw [Nat.zero_mul, Nat.add_zero] at cy0
            clear haty
            by_cases hx1 : x1 ≤ lt
            · have dx := decide_eq_true hx1
              by_cases hL0 : L = 0
              · subst hL0
                by_cases hy1 : y1 ≤ lt
                · have dy := decide_eq_true hy1
                  obtain ⟨ys, hX3⟩ := HX2.out true (by rw [HE.out]; simp [*])
                  have HX3 := Lib.hid hX3
                  clear hX3 HX2 HE
                  go_wp2_with fail
                  first
                    | exact ⟨⟨i + 1, ys, by simp, by omega, by omega, HX3⟩, by simp only [intOf]; omega⟩
                    | (go_roundw
                       case rel => exact ⟨i + 1, ys, by simp, by omega, by omega, HX3⟩
                       case measure => simp [intOf]; omega)
                · have dy := decide_eq_false hy1
                  obtain ⟨ys, hX3⟩ := HX2.out false (by rw [HE.out]; simp [*])
                  have HX3 := Lib.hid hX3
                  clear hX3 HX2 HE
                  go_wp2_with fail
                  first
                    | exact ⟨⟨i + 1, ys, by simp, by omega, by omega, HX3⟩, by simp only [intOf]; omega⟩
                    | (go_roundw
                       case rel => exact ⟨i + 1, ys, by simp, by omega, by omega, HX3⟩
                       case measure => simp [intOf]; omega)
              · have hL1 : decide ((L : Int) = 0) = false := decide_eq_false (by omega)
                have hL2 : ((L : Int) == 0) = false := by simp; omega
                obtain ⟨ys, hX3⟩ := HX2.out false (by rw [HE.out]; simp [*])
                have HX3 := Lib.hid hX3
                clear hX3 HX2 HE
                go_wp2_with fail
                first
                  | exact ⟨⟨i + 1, ys, by simp, by omega, by omega, HX3⟩, by simp only [intOf]; omega⟩
                  | (go_roundw
                     case rel => exact ⟨i + 1, ys, by simp, by omega, by omega, HX3⟩
                     case measure => simp [intOf]; omega)
            · have dx := decide_eq_false hx1
              obtain ⟨ys, hX3⟩ := HX2.out false (by rw [HE.out]; simp [*])
              have HX3 := Lib.hid hX3
              clear hX3 HX2 HE
              go_wp2_with fail
              first
                | exact ⟨⟨i + 1, ys, by simp, by omega, by omega, HX3⟩, by simp only [intOf]; omega⟩
                | (go_roundw
                   case rel => exact ⟨i + 1, ys, by simp, by omega, by omega, HX3⟩
                   case measure => simp [intOf]; omega)
          · have hp1 : (0 : Int) < (p : Int) := by omega
            obtain rfl : bp = false := by
              cases bp with
              | false => rfl
              | true => exact absurd ⟨hpz, rfl⟩ hgo
            clear hgo
            by_cases hx1 : x1 ≤ lt
            · have dx := decide_eq_true hx1
              by_cases hL0 : L = 0
              · subst hL0
                by_cases hy1 : y1 ≤ lt
                · have dy := decide_eq_true hy1
                  obtain ⟨ys, hX3⟩ := HX2.out true (by rw [HE.out]; simp [*])
                  have HX3 := Lib.hid hX3
                  clear hX3 HX2 HE
                  go_wp2_with fail
                  first
                    | exact ⟨⟨i + 1, ys, by simp, by omega, by omega, HX3⟩, by simp only [intOf]; omega⟩
                    | (go_roundw
                       case rel => exact ⟨i + 1, ys, by simp, by omega, by omega, HX3⟩
                       case measure => simp [intOf]; omega)
                · have dy := decide_eq_false hy1
                  obtain ⟨ys, hX3⟩ := HX2.out false (by rw [HE.out]; simp [*])
                  have HX3 := Lib.hid hX3
                  clear hX3 HX2 HE
                  go_wp2_with fail
                  first
                    | exact ⟨⟨i + 1, ys, by simp, by omega, by omega, HX3⟩, by simp only [intOf]; omega⟩
                    | (go_roundw
                       case rel => exact ⟨i + 1, ys, by simp, by omega, by omega, HX3⟩
                       case measure => simp [intOf]; omega)
              · have hL1 : decide ((L : Int) = 0) = false := decide_eq_false (by omega)
                have hL2 : ((L : Int) == 0) = false := by simp; omega
                obtain ⟨ys, hX3⟩ := HX2.out false (by rw [HE.out]; simp [*])
                have HX3 := Lib.hid hX3
                clear hX3 HX2 HE
                go_wp2_with fail
                first
                  | exact ⟨⟨i + 1, ys, by simp, by omega, by omega, HX3⟩, by simp only [intOf]; omega⟩
                  | (go_roundw
                     case rel => exact ⟨i + 1, ys, by simp, by omega, by omega, HX3⟩
                     case measure => simp [intOf]; omega)
            · have dx := decide_eq_false hx1
              obtain ⟨ys, hX3⟩ := HX2.out false (by rw [HE.out]; simp [*])
              have HX3 := Lib.hid hX3
              clear hX3 HX2 HE
              go_wp2_with fail
              first
                | exact ⟨⟨i + 1, ys, by simp, by omega, by omega, HX3⟩, by simp only [intOf]; omega⟩
                | (go_roundw
                   case rel => exact ⟨i + 1, ys, by simp, by omega, by omega, HX3⟩
                   case measure => simp [intOf]; omega)
    · have hlt2 : ¬ (i : Int) < (n : Int) := by omega
      have HE : Hid (Below w.heap.size w wo ∧ wo.ownsRow w.heap.size 4 1 (.slice (some ⟨gt, 0, none⟩) n n) n (bls (gL (nD N) lt))) := by
        obtain ⟨q1, q2, q3, q4⟩ := HX.out
        have e : xs = gL (nD N) lt := by
          apply List.ext_getElem?
          intro k
          by_cases hk : k < n
          · rw [q4 k (by omega) hk, gL_get (by rw [HD.out]; exact hk)]
          · rw [List.getElem?_eq_none (by omega), List.getElem?_eq_none (by rw [gL_length, HD.out]; omega)]
        rw [e] at q2
        rw [← HG.out]
        exact Lib.hid ⟨by rw [HG.out]; exact q1, q2⟩
      clear HX
      go_wp2_with fail
      go_ret
      exact ⟨gt, rfl, HE.out.2, HE.out.1⟩
end Go.Proofs.Ytjlifkhpohfiaaa
