/- LexLone answers true at any two texts and any number of lines without words between them. Conditions: the library's own variable is as a start leaves it. -/
import Derived.Test.YtponiboiijgllaaDoorLWalkU
namespace Go.Proofs.YtponiboiijgllaaDoor
open Go.RowKit
set_option maxRecDepth 100000

set_option maxHeartbeats 8000000 in
theorem loneLaw_any (s : ByteArray) (hw0 : s.size ≤ maxLen) (t : ByteArray) (hw1 : t.size ≤ maxLen) (b : Int) (hb : (Lit.int .u8 b).wf = true) (w : World) (h : LibOk w) : Calls Tryd.prog 6 #[.string s, .string t, .int .u8 b] w fun e w' => e = .returned (.bool true) ∧ Below w.heap.size w w' := by
  unfold maxLen at hw0 hw1
  have hb' : 0 ≤ b ∧ b ≤ 255 := by simpa [Lit.wf, IntKind.min, IntKind.max, IntKind.signed, IntKind.bits] using hb
  obtain ⟨n, rfl⟩ := Int.eq_ofNat_of_zero_le hb'.1
  have hn : n ≤ 255 := by omega
  clear hb hb'
  by_cases hs : 3000 < s.size ∨ 3000 < t.size
  · have hway : (3000 : Int) < (s.size : Int) ∨ ((s.size : Int) ≤ 3000 ∧ (3000 : Int) < (t.size : Int)) := by omega
    clear hs
    rcases hway with hs' | ⟨hs', ht'⟩
    all_goals
      go_enter Tryd.func6, Tryd.ntmps6
      go_wp2_with fail
      refine (lexAwake_any w h).mono ?_
      rintro e w1 ⟨rfl, b1⟩
      have s1 := b1.size
      go_wp2_with fail
      refine (lexAwake_any w1 (h.next b1)).mono ?_
      rintro e w2 ⟨rfl, b2⟩
      go_wp2
      go_ret
      exact ⟨rfl, b1.trans (b2.mono s1)⟩
  · have hs' : (s.size : Int) ≤ 3000 := by omega
    have ht' : (t.size : Int) ≤ 3000 := by omega
    have hms := midB_size n
    have hz : ((s ++ midB n) ++ t).size ≤ 20000 := by
      rw [ByteArray.size_append, ByteArray.size_append, hms]
      omega
    have hcs := lines_either s (by omega)
    have hct := lines_either t (by omega)
    have hcz := lines_either ((s ++ midB n) ++ t) hz
    rw [whole_lines] at hcz
    have hwb := whole_bad (splitNL s.data.toList) (splitNL t.data.toList) n
    have hww := whole_words (splitNL s.data.toList) (splitNL t.data.toList) n
    have hlA := (splitNL_short s.data.toList).1
    have hlB := (splitNL_short t.data.toList).1
    have hgA := goodL_len (splitNL s.data.toList) 1
    have hgB := goodL_len (splitNL t.data.toList) 1
    rw [len_data] at hlA hlB
    obtain ⟨A, hA⟩ : ∃ A, A = goodL 1 (splitNL s.data.toList) := ⟨_, rfl⟩
    obtain ⟨B, hB⟩ : ∃ B, B = goodL 1 (splitNL t.data.toList) := ⟨_, rfl⟩
    obtain ⟨C, hC⟩ : ∃ C, C = goodL 1 (splitNL s.data.toList ++ (List.replicate n [32, 35, 32, 120] ++ splitNL t.data.toList)) := ⟨_, rfl⟩
    have hCw : ∀ p ∈ C, p.2.length ≤ 20000 := by
      intro p hp
      rw [hC, ← whole_lines] at hp
      have := goodL_bound hp
      omega
    have HCW := Lib.hid hCw
    clear hCw
    have hAl : A.length ≤ 3001 := by rw [hA]; omega
    have hBl : B.length ≤ 3001 := by rw [hB]; omega
    rw [← hA] at hcs
    rw [← hB] at hct
    rw [← hC] at hcz
    rw [← hA, ← hB, ← hC] at hww
    have hCl : C.length = A.length + B.length := by
      have := congrArg List.length hww
      simpa using this
    have HWW := Lib.hid hww
    have HCl := Lib.hid hCl
    have hCb : C.length ≤ 6002 := by omega
    clear hCl
    obtain ⟨Z, hZ⟩ : ∃ Z, Z = (s ++ midB n) ++ t := ⟨_, rfl⟩
    have HZ := Lib.hid hZ
    rw [← hZ] at hcz hz
    have HCS := Lib.hid hcs
    have HCT := Lib.hid hct
    have HCZ := Lib.hid hcz
    have HWB := Lib.hid hwb
    clear hms hcs hct hcz hwb hww hlA hlB hgA hgB hA hB hC hZ
    go_enter Tryd.func6, Tryd.ntmps6
    go_wp2_with fail
    refine (lexAwake_any w h).mono ?_
    rintro e w1 ⟨rfl, b1⟩
    have s1 := b1.size
    have h1 := h.next b1
    go_wp2
    go_loop [7, 8] (fun mv iv => ∃ k : Nat, k ≤ n ∧ iv = .int .i64 k ∧ mv = .string (midB k)) (fun _ iv => n - (intOf iv).toNat)
    case atStart => exact ⟨0, by omega, rfl, rfl⟩
    case round =>
      obtain ⟨k, hk, rfl, rfl⟩ := hrel
      have hmk : ((midB k).size : Int) ≤ 2000 := by have := midB_size k; omega
      by_cases hp : k < n
      · have hi : (k : Int) < (n : Int) := by omega
        go_wp2
        go_round
        case rel => exact ⟨k + 1, by omega, by go_num, rfl⟩
        case measure => simp [intOf]; omega
      · have hkn : k = n := by omega
        subst hkn
        rcases HCS.out with ⟨hbs, cs⟩ | ⟨hbs, n1, cs⟩
        · rcases HCT.out with ⟨hbt, ct⟩ | ⟨hbt, n2, ct⟩
          · have hzz := HWB.out.2 ⟨hbs, hbt⟩
            have cz : ∀ w, LibOk w → Calls Tryd.prog 8 #[.string Z] w fun e w' => ∃ v, e = .returned (.tuple #[v, .int .i64 0, .int .i64 0]) ∧ SeesL SeesB w' v C ∧ Below w.heap.size w w' := by
              rcases HCZ.out with ⟨_, cz⟩ | ⟨hno, _⟩
              · exact cz
              · exact absurd hzz hno
            clear hbs hbt hzz HCS HCT HCZ HWB
            go_wp2_with fail
            refine (cs _ h1).mono ?_
            rintro e w2 ⟨v1, rfl, L1, b2⟩
            have s2 := b2.size
            have h2 := h1.next b2
            go_wp2_with fail
            refine (ct _ h2).mono ?_
            rintro e w3 ⟨v2, rfl, L2, b3⟩
            have s3 := b3.size
            have h3 := h2.next b3
            go_wp2_with fail
            rw [← HZ.out]
            refine (cz _ h3).mono ?_
            rintro e w4 ⟨v3, rfl, L3, b4⟩
            have s4 := b4.size
            have hb4 := ((b1.trans (b2.mono s1)).trans (b3.mono (by omega))).trans (b4.mono (by omega))
            have L1' := (L1.below b3 fun _ _ h => h.below b3).below b4 fun _ _ h => h.below b4
            have L2' := L2.below b4 fun _ _ h => h.below b4
            clear L1 L2 cs ct cz b1 b2 b3 b4 h h1 h2 h3
            obtain ⟨aa, ca, rfl⟩ := L1'.form
            obtain ⟨ab, cb, rfl⟩ := L2'.form
            obtain ⟨ac, cc, rfl⟩ := L3.form
            have H1 := Lib.hid L1'
            have H2 := Lib.hid L2'
            have H3 := Lib.hid L3
            have hcast : (C.length : Int) = (A.length : Int) + (B.length : Int) := by have := HCl.out; omega
            clear L1' L2' L3
            have tlen : ((C.length : Int) != (A.length : Int) + (B.length : Int)) = false := by rw [hcast]; simp
            clear hcast
            go_wp2
            go_loopw [18] (fun iv wr => ∃ i : Nat, i ≤ C.length ∧ iv = .int .i64 i ∧ Below w4.heap.size w4 wr) (fun iv _ => C.length - (intOf iv).toNat)
            case atStart => exact ⟨0, by omega, rfl, Below.refl _ _⟩
            case round =>
              obtain ⟨i, hi, rfl, hbr⟩ := hrel
              obtain ⟨wo, hwo⟩ : ∃ wo, wo = wr := ⟨_, rfl⟩
              subst hwo
              have hsz := hbr.size
              by_cases hpi : i < C.length
              · have hii : (i : Int) < (C.length : Int) := by omega
                rcases H3.out with ⟨h0, _⟩ | ⟨gc, cc', hvc, hgc, ec⟩
                · rw [h0] at hpi; simp at hpi
                · simp only [Value.slice.injEq] at hvc
                  obtain ⟨rfl, _, rfl⟩ := hvc
                  obtain ⟨_, x, m2, m3⟩ := ec i hpi
                  obtain ⟨u, hu⟩ : ∃ u, u = (C[i]'hpi).2 := ⟨_, rfl⟩
                  rw [← hu] at m3
                  have hub : u.length ≤ 20000 := by rw [hu]; exact HCW.out _ (List.getElem_mem hpi)
                  have hx := m3.below hbr
                  have qc := keep hbr m2 hgc
                  clear ec m2 m3
                  by_cases hpa : i < A.length
                  · have hia : (i : Int) < (A.length : Int) := by omega
                    rcases H1.out with ⟨h0, _⟩ | ⟨ga, ca', hva, hga, ea⟩
                    · rw [h0] at hpa; simp at hpa
                    · simp only [Value.slice.injEq] at hva
                      obtain ⟨rfl, _, rfl⟩ := hva
                      obtain ⟨_, y, m2, m3⟩ := ea i hpa
                      have e1 : (A[i]'hpa).2 = u := by
                        have e2 : (C.map (·.2))[i]? = (A.map (·.2) ++ B.map (·.2))[i]? := by rw [HWW.out]
                        rw [List.getElem?_append_left (by rw [List.length_map]; exact hpa), List.getElem?_map, List.getElem?_map, List.getElem?_eq_getElem hpi, List.getElem?_eq_getElem hpa] at e2
                        simp only [Option.map_some, Option.some.injEq] at e2
                        rw [hu, e2]
                      rw [e1] at m3
                      have hy := m3.below hbr
                      have qa := keep hbr m2 hga
                      clear ea m2 m3 e1 hu
                      rcases hx with ⟨hu0, ax, cx, rfl⟩ | ⟨gx, cx, rfl, hgx, ex⟩
                      · rcases hy with ⟨_, ay, cy, rfl⟩ | ⟨gy, cy, rfl, _, _⟩
                        · have HU := Lib.hid hu0
                          clear hu0
                          go_wp2
                          go_rounds 1
                          go_roundw
                          case rel => exact ⟨i + 1, by omega, by go_num, hbr⟩
                          case measure => simp [intOf]; omega
                        · have hul : u.length = 0 := by rw [hu0]; rfl
                          have HU := Lib.hid hu0
                          clear hu0
                          rw [hul] at qa
                          go_wp2
                          go_rounds 1
                          go_roundw
                          case rel => exact ⟨i + 1, by omega, by go_num, hbr⟩
                          case measure => simp [intOf]; omega
                      · rcases hy with ⟨hu0, ay, cy, rfl⟩ | ⟨gy, cy, rfl, hgy, ey⟩
                        · have hul : u.length = 0 := by rw [hu0]; rfl
                          have HU := Lib.hid hu0
                          clear hu0
                          rw [hul] at qc
                          go_wp2
                          go_rounds 1
                          go_roundw
                          case rel => exact ⟨i + 1, by omega, by go_num, hbr⟩
                          case measure => simp [intOf]; omega
                        · have EX := Lib.hid ex
                          have EY := Lib.hid ey
                          clear ex ey
                          go_wp2
                          go_loopw [21] (fun kv wr => ∃ k : Nat, k ≤ u.length ∧ kv = .int .i64 k ∧ Below wo.heap.size wo wr) (fun kv _ => u.length - (intOf kv).toNat)
                          case atStart => exact ⟨0, by omega, rfl, Below.refl _ _⟩
                          case round =>
                            obtain ⟨k, hk, rfl, hbq⟩ := hrel
                            have hszq := hbq.size
                            by_cases hpk : k < u.length
                            · have hik : (k : Int) < (u.length : Int) := by omega
                              obtain ⟨bx, hbx⟩ : ∃ bx, bx = u[k]'hpk := ⟨_, rfl⟩
                              have f1 := EX.out k hpk
                              have f2 := EY.out k hpk
                              rw [← hbx] at f1 f2
                              have q1 := keep hbq f1 hgx
                              have q2 := keep hbq f2 hgy
                              have q3 : gx < wr.heap.size := by omega
                              have q4 : gy < wr.heap.size := by omega
                              clear hbx f1 f2
                              go_wp2_with fail
                              go_region_held3 (fun w' => w'.cell? ⟨gx, k, none⟩ = some bx.v ∧ w'.cell? ⟨gy, k, none⟩ = some bx.v ∧ gx < w'.heap.size ∧ gy < w'.heap.size ∧ Below wr.heap.size wr w')
                                (first | exact two_startB wr q1 q2 q3 q4 | assumption | (refine two_keepB ?_ hbc; assumption))
                                (first | (go_at_call 19; refine (compare_self bx _).mono ?_; rintro e w' ⟨rfl, hbc⟩))
                              rcases ‹_ ∧ _ ∧ _ ∧ _ ∧ Below wr.heap.size wr _› with ⟨_, _, _, _, hBq⟩
                              go_wp2
                              go_roundw
                              case rel => exact ⟨k + 1, by omega, by go_num, hbq.trans (hBq.mono hszq)⟩
                              case measure => simp [intOf]; omega
                            · have hik : ¬ (k : Int) < (u.length : Int) := by omega
                              go_wp2
                              go_roundw
                              case rel => exact ⟨i + 1, by omega, by go_num, hbr.trans (hbq.mono hsz)⟩
                              case measure => simp [intOf]; omega
                  · have hia : (A.length : Int) ≤ (i : Int) := by omega
                    have hia' : ¬ (i : Int) < (A.length : Int) := by omega
                    have hpb : i - A.length < B.length := by have := HCl.out; omega
                    have hj : ((i : Int) - (A.length : Int)).toNat = i - A.length := by omega
                    have hj0 : 0 ≤ (i : Int) - (A.length : Int) := by omega
                    have hj1 : (i : Int) - (A.length : Int) < (B.length : Int) := by have := HCl.out; omega
                    rcases H2.out with ⟨h0, _⟩ | ⟨gb, cb', hvb, hgb, eb⟩
                    · rw [h0] at hpb; simp at hpb
                    · simp only [Value.slice.injEq] at hvb
                      obtain ⟨rfl, _, rfl⟩ := hvb
                      obtain ⟨_, y, m2, m3⟩ := eb (i - A.length) hpb
                      have e1 : (B[i - A.length]'hpb).2 = u := by
                        have e2 : (C.map (·.2))[i]? = (A.map (·.2) ++ B.map (·.2))[i]? := by rw [HWW.out]
                        rw [List.getElem?_append_right (by rw [List.length_map]; omega), List.getElem?_map, List.getElem?_map, List.length_map, List.getElem?_eq_getElem hpi, List.getElem?_eq_getElem hpb] at e2
                        simp only [Option.map_some, Option.some.injEq] at e2
                        rw [hu, e2]
                      rw [e1] at m3
                      have hy := m3.below hbr
                      have qb := keep hbr m2 hgb
                      clear eb m2 m3 e1 hu
                      rcases hx with ⟨hu0, ax, cx, rfl⟩ | ⟨gx, cx, rfl, hgx, ex⟩
                      · rcases hy with ⟨_, ay, cy, rfl⟩ | ⟨gy, cy, rfl, _, _⟩
                        · have HU := Lib.hid hu0
                          clear hu0
                          go_wp2
                          go_rounds 1
                          go_roundw
                          case rel => exact ⟨i + 1, by omega, by go_num, hbr⟩
                          case measure => simp [intOf]; omega
                        · have hul : u.length = 0 := by rw [hu0]; rfl
                          have HU := Lib.hid hu0
                          clear hu0
                          rw [hul] at qb
                          go_wp2
                          go_rounds 1
                          go_roundw
                          case rel => exact ⟨i + 1, by omega, by go_num, hbr⟩
                          case measure => simp [intOf]; omega
                      · rcases hy with ⟨hu0, ay, cy, rfl⟩ | ⟨gy, cy, rfl, hgy, ey⟩
                        · have hul : u.length = 0 := by rw [hu0]; rfl
                          have HU := Lib.hid hu0
                          clear hu0
                          rw [hul] at qc
                          go_wp2
                          go_rounds 1
                          go_roundw
                          case rel => exact ⟨i + 1, by omega, by go_num, hbr⟩
                          case measure => simp [intOf]; omega
                        · have EX := Lib.hid ex
                          have EY := Lib.hid ey
                          clear ex ey
                          go_wp2
                          go_loopw [21] (fun kv wr => ∃ k : Nat, k ≤ u.length ∧ kv = .int .i64 k ∧ Below wo.heap.size wo wr) (fun kv _ => u.length - (intOf kv).toNat)
                          case atStart => exact ⟨0, by omega, rfl, Below.refl _ _⟩
                          case round =>
                            obtain ⟨k, hk, rfl, hbq⟩ := hrel
                            have hszq := hbq.size
                            by_cases hpk : k < u.length
                            · have hik : (k : Int) < (u.length : Int) := by omega
                              obtain ⟨bx, hbx⟩ : ∃ bx, bx = u[k]'hpk := ⟨_, rfl⟩
                              have f1 := EX.out k hpk
                              have f2 := EY.out k hpk
                              rw [← hbx] at f1 f2
                              have q1 := keep hbq f1 hgx
                              have q2 := keep hbq f2 hgy
                              have q3 : gx < wr.heap.size := by omega
                              have q4 : gy < wr.heap.size := by omega
                              clear hbx f1 f2
                              go_wp2_with fail
                              go_region_held3 (fun w' => w'.cell? ⟨gx, k, none⟩ = some bx.v ∧ w'.cell? ⟨gy, k, none⟩ = some bx.v ∧ gx < w'.heap.size ∧ gy < w'.heap.size ∧ Below wr.heap.size wr w')
                                (first | exact two_startB wr q1 q2 q3 q4 | assumption | (refine two_keepB ?_ hbc; assumption))
                                (first | (go_at_call 19; refine (compare_self bx _).mono ?_; rintro e w' ⟨rfl, hbc⟩))
                              rcases ‹_ ∧ _ ∧ _ ∧ _ ∧ Below wr.heap.size wr _› with ⟨_, _, _, _, hBq⟩
                              go_wp2
                              go_roundw
                              case rel => exact ⟨k + 1, by omega, by go_num, hbq.trans (hBq.mono hszq)⟩
                              case measure => simp [intOf]; omega
                            · have hik : ¬ (k : Int) < (u.length : Int) := by omega
                              go_wp2
                              go_roundw
                              case rel => exact ⟨i + 1, by omega, by go_num, hbr.trans (hbq.mono hsz)⟩
                              case measure => simp [intOf]; omega
              · have hii : ¬ (i : Int) < (C.length : Int) := by omega
                go_wp2
                go_ret
                exact ⟨rfl, hb4.trans (hbr.mono (by omega))⟩
          · have hno : ∃ n3 : Nat, ∀ w, LibOk w → Calls Tryd.prog 8 #[.string Z] w fun e w' => e = .returned (.tuple #[.slice none 0 0, .int .i64 n3, .int .i64 7]) ∧ Below w.heap.size w w' := by
              rcases HCZ.out with ⟨hz0, _⟩ | ⟨_, n3, cz⟩
              · exact absurd (HWB.out.1 hz0).2 hbt
              · exact ⟨n3, cz⟩
            obtain ⟨n3, cz⟩ := hno
            clear hbs hbt HCS HCT HCZ HWB
            go_wp2_with fail
            refine (cs _ h1).mono ?_
            rintro e w2 ⟨v1, rfl, _, b2⟩
            have s2 := b2.size
            have h2 := h1.next b2
            go_wp2_with fail
            refine (ct _ h2).mono ?_
            rintro e w3 ⟨rfl, b3⟩
            have s3 := b3.size
            have h3 := h2.next b3
            go_wp2_with fail
            rw [← HZ.out]
            refine (cz _ h3).mono ?_
            rintro e w4 ⟨rfl, b4⟩
            have hb4 := ((b1.trans (b2.mono s1)).trans (b3.mono (by omega))).trans (b4.mono (by omega))
            clear cs ct cz
            go_wp2
            go_ret
            exact ⟨rfl, hb4⟩
        · have hno : ∃ n3 : Nat, ∀ w, LibOk w → Calls Tryd.prog 8 #[.string Z] w fun e w' => e = .returned (.tuple #[.slice none 0 0, .int .i64 n3, .int .i64 7]) ∧ Below w.heap.size w w' := by
            rcases HCZ.out with ⟨hz0, _⟩ | ⟨_, n3, cz⟩
            · exact absurd (HWB.out.1 hz0).1 hbs
            · exact ⟨n3, cz⟩
          obtain ⟨n3, cz⟩ := hno
          rcases HCT.out with ⟨hbt, ct⟩ | ⟨hbt, n2, ct⟩
          · clear hbs hbt HCS HCT HCZ HWB
            go_wp2_with fail
            refine (cs _ h1).mono ?_
            rintro e w2 ⟨rfl, b2⟩
            have s2 := b2.size
            have h2 := h1.next b2
            go_wp2_with fail
            refine (ct _ h2).mono ?_
            rintro e w3 ⟨v2, rfl, _, b3⟩
            have s3 := b3.size
            have h3 := h2.next b3
            go_wp2_with fail
            rw [← HZ.out]
            refine (cz _ h3).mono ?_
            rintro e w4 ⟨rfl, b4⟩
            have hb4 := ((b1.trans (b2.mono s1)).trans (b3.mono (by omega))).trans (b4.mono (by omega))
            clear cs ct cz
            go_wp2
            go_ret
            exact ⟨rfl, hb4⟩
          · clear hbs hbt HCS HCT HCZ HWB
            go_wp2_with fail
            refine (cs _ h1).mono ?_
            rintro e w2 ⟨rfl, b2⟩
            have s2 := b2.size
            have h2 := h1.next b2
            go_wp2_with fail
            refine (ct _ h2).mono ?_
            rintro e w3 ⟨rfl, b3⟩
            have s3 := b3.size
            have h3 := h2.next b3
            go_wp2_with fail
            rw [← HZ.out]
            refine (cz _ h3).mono ?_
            rintro e w4 ⟨rfl, b4⟩
            have hb4 := ((b1.trans (b2.mono s1)).trans (b3.mono (by omega))).trans (b4.mono (by omega))
            clear cs ct cz
            go_wp2
            go_ret
            exact ⟨rfl, hb4⟩
end Go.Proofs.YtponiboiijgllaaDoor
