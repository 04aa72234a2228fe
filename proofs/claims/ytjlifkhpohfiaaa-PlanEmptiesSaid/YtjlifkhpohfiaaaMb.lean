/- The law's entries are right; so are its rows. Condition: at most 20 nodes. -/
import Derived.Test.YtjlifkhpohfiaaaRc
namespace Go.Proofs.Ytjlifkhpohfiaaa
open Go.RowKit Go.Op
set_option maxRecDepth 100000

theorem one_list (b : Nat) : (one b).toList = [UInt8.ofNat b] := by rw [ByteArray.toList_eq]; rfl
theorem two_list (b c : Nat) : (two b c).toList = [UInt8.ofNat b, UInt8.ofNat c] := by rw [ByteArray.toList_eq]; rfl
theorem app_list (a b : ByteArray) : (a ++ b).toList = a.toList ++ b.toList := by rw [ByteArray.toList_eq, ByteArray.toList_eq, ByteArray.toList_eq, ByteArray.data_append, Array.toList_append]
def hb (i : Nat) : Nat := if i = 0 then 48 else 96 + i
theorem head_list (i : Nat) : (headB i).toList = [UInt8.ofNat (hb i)] := by
  unfold headB hb
  split
  · exact one_list 48
  · exact one_list (96 + i)
theorem live_list (i k : Nat) : (liveE i k).key.toList = [UInt8.ofNat (hb i), UInt8.ofNat (48 + k / 10), UInt8.ofNat (48 + k % 10)] := by
  show (headB i ++ two (48 + k / 10) (48 + k % 10)).toList = _
  rw [app_list, head_list, two_list]; rfl
theorem tomb_list (i : Nat) : (tombE i).key.toList = [UInt8.ofNat (hb i), UInt8.ofNat 120] := by
  show (headB i ++ one 120).toList = _
  rw [app_list, head_list, one_list]; rfl
theorem ofNat_lt {a b : Nat} (ha : a < 256) (hb : b < 256) : (UInt8.ofNat a < UInt8.ofNat b) ↔ a < b := by
  rw [UInt8.lt_iff_toNat_lt, ofNat_toNat ha, ofNat_toNat hb]
theorem bl_head {a b : Nat} (ha : a < 256) (hb : b < 256) (h : a < b) (x y : List UInt8) : bytesLess (UInt8.ofNat a :: x) (UInt8.ofNat b :: y) = true := by
  rw [bytesLess, decide_eq_true ((ofNat_lt ha hb).2 h)]; rfl
theorem bl_same (a : Nat) (x y : List UInt8) : bytesLess (UInt8.ofNat a :: x) (UInt8.ofNat a :: y) = bytesLess x y := by
  have : ¬ (UInt8.ofNat a < UInt8.ofNat a) := UInt8.lt_irrefl _
  rw [bytesLess, decide_eq_false this]; simp
theorem hb_lt {i : Nat} (h : i ≤ 100) : hb i < 256 := by unfold hb; split <;> omega
theorem live_up (i : Nat) {j k : Nat} (h : j < k) (hk : k < 70) : lt (liveE i j).key (liveE i k).key = true := by
  unfold lt
  rw [live_list, live_list, bl_same]
  by_cases e : j / 10 = k / 10
  · rw [e, bl_same]
    exact bl_head (by omega) (by omega) (by omega) _ _
  · exact bl_head (by omega) (by omega) (by omega) _ _
theorem live_tomb (i : Nat) {j : Nat} (h : j < 70) : lt (liveE i j).key (tombE i).key = true := by
  unfold lt
  rw [live_list, tomb_list, bl_same]
  exact bl_head (by omega) (by omega) (by omega) _ _
/-- A text with the head of a node lies in its span. -/
theorem head_has (n i : Nat) (hi : i < n) (hn : n ≤ 100) (k : ByteArray) (r : List UInt8) (hk : k.toList = UInt8.ofNat (hb i) :: r) : (spanI n i).has k = true := by
  have h1 : lt k (spanI n i).lo = false := by
    show lt k (nameB i) = false
    unfold nameB
    split
    · exact lt_no k
    · rename_i h0
      unfold lt
      rw [hk, one_list, show hb i = 96 + i from if_neg h0, bl_same]
      cases r <;> rfl
  unfold Sp.has
  rw [h1]
  by_cases h2 : i + 1 = n
  · have : (spanI n i).all = true := decide_eq_true h2
    rw [this]; rfl
  · have h3 : (spanI n i).hi = one (97 + i) := by
      show (if i + 1 < n then nameB (i + 1) else _) = _
      rw [if_pos (by omega), nameB, if_neg (by omega)]
      congr 1; omega
    have h4 : lt k (spanI n i).hi = true := by
      rw [h3]
      unfold lt
      rw [hk, one_list]
      exact bl_head (hb_lt (by omega)) (by omega) (by unfold hb; split <;> omega) _ _
    rw [h4]; simp
theorem entL_get (i : Nat) (x : Spc) {j : Nat} {e : En} (h : (entL i x)[j]? = some e) : (j < x.live % 70 ∧ e = liveE i j) ∨ (j = x.live % 70 ∧ x.tomb = true ∧ e = tombE i) := by
  unfold entL at h
  by_cases hj : j < x.live % 70
  · rw [List.getElem?_append_left (by rw [liveL_length]; exact hj)] at h
    refine .inl ⟨hj, ?_⟩
    simp only [liveL', List.getElem?_map, List.getElem?_range hj, Option.map_some, Option.some.injEq] at h
    exact h.symm
  · rw [List.getElem?_append_right (by rw [liveL_length]; omega), liveL_length] at h
    cases ht : x.tomb with
    | false => rw [ht] at h; simp at h
    | true =>
      rw [ht] at h
      simp only [if_true] at h
      have h2 := (List.getElem?_eq_some_iff.1 h).1
      simp at h2
      have hj2 : j = x.live % 70 := by omega
      rw [hj2, Nat.sub_self] at h
      exact .inr ⟨hj2, rfl, by simpa using h.symm⟩
theorem ent_right (n i : Nat) (x : Spc) (hi : i < n) (hn : n ≤ 20) : rightB (spanI n i) (entL i x) = true := by
  refine right_yes fun j hj => ?_
  rw [okAt_eq hj]
  have he := entL_get i x (List.getElem?_eq_getElem hj)
  have hup : (j == 0 || lt ((entL i x)[j - 1]'(by omega)).key (entL i x)[j].key) = true := by
    by_cases h0 : j = 0
    · rw [Bool.or_eq_true]; exact .inl (by rw [h0]; rfl)
    · have hp := entL_get i x (List.getElem?_eq_getElem (show j - 1 < (entL i x).length by omega))
      rw [Bool.or_eq_true]
      refine .inr ?_
      rcases hp with ⟨p1, p2⟩ | ⟨p1, -, -⟩
      · rw [p2]
        rcases he with ⟨e1, e2⟩ | ⟨e1, -, e2⟩
        · rw [e2]; exact live_up i (by omega) (by omega)
        · rw [e2]; exact live_tomb i (by omega)
      · rcases he with ⟨e1, -⟩ | ⟨e1, -, -⟩ <;> omega
  rw [hup]
  rcases he with ⟨-, e2⟩ | ⟨-, -, e2⟩
  · rw [e2, head_has n i hi (by omega) _ _ (live_list i j)]; rfl
  · rw [e2, head_has n i hi (by omega) _ _ (tomb_list i)]; rfl
theorem entL_length (i : Nat) (x : Spc) : (entL i x).length ≤ 70 := by
  unfold entL
  rw [List.length_append, liveL_length]
  split <;> simp <;> omega
theorem ent_few (i : Nat) (x : Spc) : (entL i x).length ≤ 500 := Nat.le_trans (entL_length i x) (by decide)
theorem ent_short (i : Nat) (x : Spc) : ∀ e ∈ entL i x, e.key.size ≤ 1000000 := fun e he => by
  obtain ⟨j, hj, rfl⟩ := List.mem_iff_getElem.1 he
  rcases entL_get i x (List.getElem?_eq_getElem hj) with ⟨-, e⟩ | ⟨-, -, e⟩
  · rw [e]
    show (headB i ++ two _ _).size ≤ _
    rw [ByteArray.size_append, head_size, two_size]; decide
  · rw [e]
    show (headB i ++ one _).size ≤ _
    rw [ByteArray.size_append, head_size, one_size]; decide
/-- The views of the first nodes of a row. -/
def VIs (l : List Spc) (k : Nat) (vl : List (Vw × Vs)) : Prop := vl.length = k ∧ ∀ i x, i < k → l[i]? = some x → ∃ q, vl[i]? = some (viewI (hts l) l.length i ((hts l).getD i 0) x, q)
theorem handO_is (o : Option Nat) (h : ∀ j, o = some j → j < 1000) : handO o = 0 ∨ isH (handO o) = true := by
  cases o with
  | none => exact .inl rfl
  | some j => exact .inr (hand_is (P := (j : Int)) (G := 7) (by omega) (by have := h j rfl; omega) (by decide) (by decide)).2
theorem tto_link (hs : List Nat) (i k : Nat) (hl : hs.length ≤ 1000) (hk : k ≤ 1000) : tto (linkI hs i k) = handO (firstH hs (k : Int) (i + 1)) :=
  tto_word (handO_is _ fun j hj => by have := firstH_some hj; omega) (by omega) (by omega)
section
variable {l : List Spc} {n : Nat} {vl : List (Vw × Vs)}
theorem VIs.at_ (h : VIs l n vl) (hn : n = l.length) {i : Nat} {y : Vw × Vs} (hy : vl[i]? = some y) : ∃ x H, i < n ∧ l[i]? = some x ∧ (hts l)[i]? = some H ∧ y.1 = viewI (hts l) n i H x := by
  have hi : i < n := by rw [← h.1]; exact (List.getElem?_eq_some_iff.1 hy).1
  obtain ⟨x, hx⟩ : ∃ x, l[i]? = some x := ⟨_, List.getElem?_eq_getElem (by omega)⟩
  obtain ⟨H, hH⟩ : ∃ H, (hts l)[i]? = some H := ⟨_, List.getElem?_eq_getElem (by rw [hts_length]; omega)⟩
  obtain ⟨q, hq⟩ := h.2 i x hi hx
  rw [hy] at hq
  cases hq
  exact ⟨x, H, hi, hx, hH, by rw [hn, List.getD_eq_getElem?_getD, hH]; rfl⟩
theorem toF_first (h : VIs l n vl) (hn : n = l.length) (k : Int) : ∀ d j, j + d = n → toF k (vl.drop j) = handO (firstH (hts l) k j)
  | 0, j, e => by rw [List.drop_of_length_le (by rw [h.1]; omega), firstH_end (by rw [hts_length]; omega)]; rfl
  | d + 1, j, e => by
    have hj : j < vl.length := by rw [h.1]; omega
    obtain ⟨x, H, -, -, hH, hy⟩ := h.at_ hn (List.getElem?_eq_getElem hj)
    rw [List.drop_eq_getElem_cons hj, toF, firstH_at hH, toF_first h hn k d (j + 1) (by omega), hy]
    have e1 : (viewI (hts l) n j H x).links.length = H := by simp [viewI]
    rw [e1]
    split <;> rfl
theorem nameB_up (i : Nat) (hi : i ≤ 100) : lt (nameB i) (nameB (i + 1)) = true := by
  unfold nameB
  rw [if_neg (by omega : ¬ i + 1 = 0)]
  split
  · unfold lt
    rw [one_list]
    have : (⟨#[]⟩ : ByteArray).toList = [] := by rw [ByteArray.toList_eq]
    rw [this]; rfl
  · unfold lt
    rw [one_list, one_list]
    exact bl_head (by omega) (by omega) (by omega) _ _
theorem right_views (l : List Spc) (n : Nat) (hn : n = l.length) (h0 : 1 ≤ n) (hl : n ≤ 20) {vl : List (Vw × Vs)} (h : VIs l n vl) : RightP vl := by
  refine ⟨fun e => by have := h.1; rw [e] at this; simp at this; omega, fun i y hy => ?_⟩
  obtain ⟨x, H, hi, hx, hH, e⟩ := h.at_ hn hy
  obtain ⟨y0, hy0⟩ : ∃ y, vl[0]? = some y := ⟨_, List.getElem?_eq_getElem (by rw [h.1]; omega)⟩
  obtain ⟨x0, H0, -, hx0, hH0, e0⟩ := h.at_ hn hy0
  have hH6 := hts_in (List.mem_of_getElem? hH)
  have hm : H0 = most l := by
    cases l with
    | nil => simp at hx0
    | cons a r => simpa [hts] using hH0.symm
  refine ⟨?_, ?_, y0, y, hy0, hy, ?_, ?_, ?_⟩
  · rw [e, beq_iff_eq]
    show (nameB i).toList = _
    cases i with
    | zero => rfl
    | succ i =>
      obtain ⟨z, hz⟩ : ∃ z, vl[i]? = some z := ⟨_, List.getElem?_eq_getElem (by rw [h.1]; omega)⟩
      obtain ⟨x1, H1, -, -, -, e1⟩ := h.at_ hn hz
      have : lowAt vl (i + 1) = z.1.rv.sp.hi := by show (match vl[i]? with | some x => x.1.rv.sp.hi | none => _) = _; rw [hz]
      rw [this, e1]
      show (nameB (i + 1)).toList = (if i + 1 < n then nameB (i + 1) else _).toList
      rw [if_pos hi]
  · rw [e, h.1]
    unfold spansB
    have hem : (spanI n i).empty = false := by
      unfold Sp.empty
      by_cases h2 : i + 1 = n
      · have : (spanI n i).all = true := decide_eq_true h2
        rw [this]; rfl
      · have h3 : lt (spanI n i).lo (spanI n i).hi = true := by
          show lt (nameB i) (if i + 1 < n then nameB (i + 1) else _) = true
          rw [if_pos (by omega)]
          exact nameB_up i (by omega)
        rw [h3]; simp
    show (!false && (!(spanI n i).empty && ((nameB i).toList == (nameB i).toList && decide (i + 1 = n) == decide (i + 1 = n)))) = true
    rw [hem]; simp
  · rw [e]
    intro e2
    have e3 : (viewI (hts l) n i H x).links.length = H := by simp [viewI]
    rw [e2] at e3
    simp at e3
    omega
  · rw [e, e0]
    simp only [viewI, List.length_map, List.length_range]
    omega
  · intro k z hz
    rw [e] at hz
    have hk : k < H := by
      have := (List.getElem?_eq_some_iff.1 hz).1
      simpa [viewI] using this
    have hz2 : z = linkI (hts l) i k := by
      simp only [viewI, List.getElem?_map, List.getElem?_range hk, Option.map_some, Option.some.injEq] at hz
      exact hz.symm
    rw [hz2, tto_link _ _ _ (by rw [hts_length]; omega) (by omega), toV, if_neg (by rw [h.1]; omega), Int.toNat_natCast]
    exact (toF_first h hn (k : Int) (n - (i + 1)) (i + 1) (by omega)).symm
end
end Go.Proofs.Ytjlifkhpohfiaaa
