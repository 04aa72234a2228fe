/- What rotateCmpFunc leaves of a row of entries: two parts that stand side by side exchanged. Condition: the row has at most 2^40 entries. -/
import Derived.Test.YthglldnhffkefaaSWalkD
namespace Go.Proofs.Ythglldnhffkefaa
open Go.RowKit Go.Op Go.Sort
set_option maxRecDepth 100000

set_option maxHeartbeats 4000000 in
theorem rotate_any (w0 : World) (g cap n a m b : Nat) (A u v B : List En) (w : World) (R : Sow w0 g n) (hn : A.length + (u.length + (v.length + B.length)) = n) (hsz : n ≤ 1099511627776) (ha : A.length = a) (hu : a + u.length = m) (hv : m + v.length = b) (hu0 : 0 < u.length) (hv0 : 0 < v.length)
    (h : Srt w0 g (A ++ (u ++ (v ++ B))) w) :
    Calls Try.prog 41 #[.slice (some ⟨g, 0, none⟩) n cap, .int .i64 (a : Int), .int .i64 (m : Int), .int .i64 (b : Int), .func (.func 27) #[] #[]] w fun e w' => e = .returned (.tuple #[]) ∧ Srt w0 g (A ++ (v ++ (u ++ B))) w' := by
  have H0 := Lib.hid h
  have HR := Lib.hid R
  clear h R
  obtain ⟨ku, hku⟩ : ∃ ku, ku = u.length := ⟨_, rfl⟩
  obtain ⟨kv, hkv⟩ : ∃ kv, kv = v.length := ⟨_, rfl⟩
  have e1 : (m : Int) - (a : Int) = (ku : Int) := by omega
  have e2 : (b : Int) - (m : Int) = (kv : Int) := by omega
  have hn2 : a + (ku + (kv + B.length)) = n := by omega
  have g1 : a + ku = m := by omega
  have g2 : 0 < ku := by omega
  have g3 : 0 < kv := by omega
  have HK : Hid (u.length = ku ∧ v.length = kv) := Lib.hid ⟨hku.symm, hkv.symm⟩
  clear hku hkv hn hu hv hu0 hv0
  go_enter Try.func41, Try.ntmps41
  go_wp2
  go_loopw [10, 11] (fun iv jv wr => ∃ (i j : Nat) (L P Q S : List En), iv = .int .i64 (i : Int) ∧ jv = .int .i64 (j : Int) ∧ P.length = i ∧ Q.length = j ∧ 0 < i ∧ 0 < j ∧ a + L.length + i = m ∧ L.length + (i + (j + S.length)) = ku + kv ∧ Hid (L ++ (Q ++ (P ++ S)) = v ++ u) ∧ Hid (Srt w0 g (A ++ (L ++ (P ++ (Q ++ (S ++ B))))) wr)) (fun iv jv _ => (intOf iv).toNat + (intOf jv).toNat)
  case atStart => exact ⟨ku, kv, [], u, v, [], rfl, rfl, HK.out.1, HK.out.2, by omega, by omega, by simp; omega, by simp, Lib.hid (by simp), Lib.hid (by have := H0.out; simpa using this)⟩
  case round =>
    obtain ⟨i, j, L, P, Q, S, rfl, rfl, hP, hQ, hi0, hj0, hm, hlen, HE, HS⟩ := hrel
    clear H0 e1 e2
    obtain ⟨q, hq⟩ : ∃ q, q = a + L.length := ⟨_, rfl⟩
    have e3 : (m : Int) - (i : Int) = (q : Int) := by omega
    have hqA : (A ++ L).length = q := by simp; omega
    have hqm : q + i = m := by omega
    have Hqm := Lib.hid hqm
    have HqA := Lib.hid hqA
    clear hq hqA hqm
    by_cases hij : i = j
    · subst hij
      have t1 : ((i : Int) != (i : Int)) = false := by simp
      have HC := Lib.hid (fun w h => swaprange_any w0 g cap n q m i (A ++ L) P [] Q (S ++ B) w HR.out (by have := HqA.out; have := Hqm.out; simp at *; omega) hsz HqA.out hP hQ (by have := Hqm.out; simp; omega) h)
      have HS2 : Hid (Srt w0 g ((A ++ L) ++ (P ++ ([] ++ (Q ++ (S ++ B))))) wr) := Lib.hid (by have := HS.out; simpa using this)
      go_wp2_with fail
      refine (HC.out _ HS2.out).mono ?_
      rintro e w1 ⟨rfl, h1⟩
      have HF : Hid (Srt w0 g (A ++ (v ++ (u ++ B))) w1) := Lib.hid (by
        have h2 := HE.out
        have h3 : A ++ (v ++ (u ++ B)) = A ++ ((v ++ u) ++ B) := by simp
        rw [h3, ← h2]
        simpa using h1)
      clear h1
      go_wp2
      go_end0
      exact ⟨rfl, HF.out⟩
    · have t1 : ((i : Int) != (j : Int)) = true := by simp; omega
      by_cases hgt : j < i
      · have t2 : (j : Int) < (i : Int) := by omega
        obtain ⟨P1, P2, rfl, hP1⟩ : ∃ P1 P2, P = P1 ++ P2 ∧ P1.length = j := ⟨P.take j, P.drop j, (List.take_append_drop _ _).symm, by rw [List.length_take]; omega⟩
        rw [List.length_append] at hP
        have HC := Lib.hid (fun w h => swaprange_any w0 g cap n q m j (A ++ L) P1 P2 Q (S ++ B) w HR.out (by have := HqA.out; have := Hqm.out; simp at *; omega) hsz HqA.out hP1 hQ (by have := Hqm.out; omega) h)
        have HS2 : Hid (Srt w0 g ((A ++ L) ++ (P1 ++ (P2 ++ (Q ++ (S ++ B))))) wr) := Lib.hid (by have := HS.out; simpa using this)
        have e4 : (i : Int) - (j : Int) = (P2.length : Int) := by omega
        go_wp2_with fail
        refine (HC.out _ HS2.out).mono ?_
        rintro e w1 ⟨rfl, h1⟩
        have HF : Hid (Srt w0 g (A ++ ((L ++ Q) ++ (P2 ++ (P1 ++ (S ++ B))))) w1) := Lib.hid (by simpa using h1)
        have HE2 : Hid ((L ++ Q) ++ (P1 ++ (P2 ++ S)) = v ++ u) := Lib.hid (by have := HE.out; simpa using this)
        clear h1
        go_wp2
        go_roundw
        case rel => exact ⟨P2.length, j, L ++ Q, P2, P1, S, by go_num, rfl, rfl, hP1, by omega, hj0, by simp; omega, by simp; omega, HE2, HF⟩
        case measure => simp [intOf]; omega
      · have t2 : ¬ (j : Int) < (i : Int) := by omega
        obtain ⟨Q1, Q2, rfl, hQ2⟩ : ∃ Q1 Q2, Q = Q1 ++ Q2 ∧ Q2.length = i := ⟨Q.take (j - i), Q.drop (j - i), (List.take_append_drop _ _).symm, by rw [List.length_drop]; omega⟩
        rw [List.length_append] at hQ
        obtain ⟨q2, hq2⟩ : ∃ q2, q2 = m + j - i := ⟨_, rfl⟩
        have HC := Lib.hid (fun w h => swaprange_any w0 g cap n q q2 i (A ++ L) P Q1 Q2 (S ++ B) w HR.out (by have := HqA.out; have := Hqm.out; simp at *; omega) hsz HqA.out hP hQ2 (by have := Hqm.out; omega) h)
        have HS2 : Hid (Srt w0 g ((A ++ L) ++ (P ++ (Q1 ++ (Q2 ++ (S ++ B))))) wr) := Lib.hid (by have := HS.out; simpa using this)
        have e4 : (j : Int) - (i : Int) = (Q1.length : Int) := by omega
        have e5 : (m : Int) + (j : Int) - (i : Int) = (q2 : Int) := by omega
        clear hq2
        go_wp2_with fail
        refine (HC.out _ HS2.out).mono ?_
        rintro e w1 ⟨rfl, h1⟩
        have HF : Hid (Srt w0 g (A ++ (L ++ (Q2 ++ (Q1 ++ ((P ++ S) ++ B))))) w1) := Lib.hid (by simpa using h1)
        have HE2 : Hid (L ++ (Q1 ++ (Q2 ++ (P ++ S))) = v ++ u) := Lib.hid (by have := HE.out; simpa using this)
        clear h1
        go_wp2
        go_roundw
        case rel => exact ⟨i, Q1.length, L, Q2, Q1, P ++ S, rfl, by go_num, hQ2, rfl, hi0, by omega, hm, by simp; omega, HE2, HF⟩
        case measure => simp [intOf]; omega
end Go.Proofs.Ythglldnhffkefaa
