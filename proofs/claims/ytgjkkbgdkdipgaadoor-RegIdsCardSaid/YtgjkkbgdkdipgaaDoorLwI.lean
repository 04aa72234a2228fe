/- RegIds's closure. Conditions: at most 150 acts; at most 8 places; the library's table stands. -/
import Derived.Test.YtgjkkbgdkdipgaaDoorLwH
import Derived.Test.YtgjkkbgdkdipgaaDoorOpen
namespace Go.Proofs.YtgjkkbgdkdipgaaDoor
open Go.RowKit Go.Op
set_option maxRecDepth 100000

theorem load_4 {w : World} {p : Addr} {n : Bool} (h : w.cell? p = some (.bool n)) : (Instr.loadAt 4 (.pointer (some p))).run Tryd.prog w = .ok (.bool n) w := by go_simp
theorem at_31 (g n c k : Nat) (h : k < n) (w : World) : (Instr.indexAt 31 (.slice (some ⟨g, 0, none⟩) n c) (.int .i64 (k : Int))).run Tryd.prog w = .ok (.pointer (some ⟨g, k, none⟩)) w := by go_simp
theorem at_64 (g n c k : Nat) (h : k < n) (w : World) : (Instr.indexAt 64 (.slice (some ⟨g, 0, none⟩) n c) (.int .i64 (k : Int))).run Tryd.prog w = .ok (.pointer (some ⟨g, k, none⟩)) w := by go_simp
theorem enter_27 (xs : Array Value) (w : World) : (callFunc 27 xs).run Tryd.prog w = .ok (.enter 27 xs) w := by kernel_rfl
theorem enter_33 (xs : Array Value) (w : World) : (callFunc 33 xs).run Tryd.prog w = .ok (.enter 33 xs) w := by kernel_rfl
/-- A region with one call whose answer isn't known ahead; what stands ahead of it and behind it. -/
def QMid (w : World) (k : Nat) (F : World → Prop) (Post : Value → World → Prop) (bs : List Bool) (β : Nat → Value) (W : World) : Prop :=
  (bs[0]? = some false → Below w.heap.size w W) ∧ (bs[0]? = some true → Post (β k) W) ∧ F W
theorem qmid_start {w : World} {k : Nat} {F : World → Prop} {Post : Value → World → Prop} {β : Nat → Value} (h : ∀ W, Below w.heap.size w W → F W) : QMid w k F Post [false] β w.drew := ⟨fun _ => (Below.refl _ _).drew, fun e => (by cases e), h _ (Below.refl _ _).drew⟩
theorem qmid_call {w : World} {k : Nat} {F : World → Prop} {Post : Value → World → Prop} {bs : List Bool} {β : Nat → Value} {W : World} {f : FuncId} {args : Array Value} (h : QMid w k F Post bs β W) (h0 : bs[0]? = some false) (hc : ∀ W, Below w.heap.size w W → Calls Tryd.prog f args W fun e w' => ∃ u, e = .returned u ∧ Post u w' ∧ F w') :
    Calls Tryd.prog f args W fun e w' => ∃ u, e = .returned u ∧ QMid w k F Post (bs.set 0 true) (FreeV.upd β k u) w' := by
  refine (hc W (h.1 h0)).mono ?_
  rintro e w' ⟨u, rfl, hp, hf⟩
  refine ⟨u, rfl, fun e2 => (by rw [set_at h0] at e2; cases e2), fun _ => ?_, hf⟩
  simp only [FreeV.upd, if_true]
  exact hp
/-- What the regions read. -/
structure IRd (zy b : Nat) (R : Rg) (g5 g6 q : Nat) (x5 : Int) (f : Bool) (W : World) : Prop where
  r : YVar W zy b R
  i5 : W.cell? ⟨g5, q, none⟩ = some (.int .i64 x5)
  i6 : W.cell? ⟨g6, q, none⟩ = some (.bool f)
/-- In the midst of the closure: i acts were done; q asks more. -/
structure IMid (w0 : World) (b c r : Nat) (G : List (Nat × List Sw)) (w : World) (top : Int) (S P : List Int) (A : List Int) (i : Nat) (q : Int) (ids : List Int) (fl : List Bool) (v5 v6 : Value) (t1 : Value) (G1 : List (Nat × List Sw)) (m1 : M) (B : List (Int × Int)) (w1 : World) : Prop where
  dgo : Dgo w0 b c r w.heap.size [b, c, r] w t1 G G1 w1 m1 (ptDo w b)
  row : IRow w0 b c r w.heap.size t1 G1 w1 w.heap.size v5 v6 ids fl
  rm : RM (i : Int) m1 top S P 0 A B
  td : Told B ids fl
  cnt : m1.count ≤ 600 + 400 * i + q
  le : ids.length ≤ i
section
variable {w0 : World} {b c r : Nat} {G : List (Nat × List Sw)} {w : World} {top : Int} {S P A : List Int} {i : Nat} {q : Int} {ids : List Int} {fl : List Bool} {v5 v6 v' : Value} {t1 t2 : Value} {G1 G2 : List (Nat × List Sw)} {m1 m2 : M} {B B' : List (Int × Int)} {w1 w2 : World}
theorem IMid.later (h : IMid w0 b c r G w top S P A i q ids fl v5 v6 t1 G1 m1 B w1) (hb : Below w1.heap.size w1 w2) : IMid w0 b c r G w top S P A i q ids fl v5 v6 t1 G1 m1 B w2 :=
  ⟨h.dgo.later hb, h.row.later hb, h.rm, h.td, h.cnt, h.le⟩
theorem IMid.aft {q' : Int} (h : IMid w0 b c r G w top S P A i q ids fl v5 v6 t1 G1 m1 B w1) (ha : Aft w0 b c r w.heap.size 0 t1 G1 w1 t2 G2 w2 m2 (ptDo w b)) (hr : RM (i : Int) m2 top S P 0 A B) (hc : m2.count ≤ 600 + 400 * i + q') : IMid w0 b c r G w top S P A i q' ids fl v5 v6 t2 G2 m2 B w2 :=
  ⟨h.dgo.aft ha, h.row.aft ha, hr, h.td, hc, h.le⟩
theorem IMid.more {q' : Int} (h : IMid w0 b c r G w top S P A i q ids fl v5 v6 t1 G1 m1 B w1) (hq : q ≤ q') : IMid w0 b c r G w top S P A i q' ids fl v5 v6 t1 G1 m1 B w1 :=
  ⟨h.dgo, h.row, h.rm, h.td, by have := h.cnt; omega, h.le⟩
theorem IRow.rd {R : Rg} {zy g5 g6 n c5 c6 j : Nat} {x5 : Int} {f : Bool} (h : IRow w0 b c r w.heap.size t1 G1 w1 w.heap.size (.slice (some ⟨g5, 0, none⟩) n c5) (.slice (some ⟨g6, 0, none⟩) n c6) ids fl) (hy : YVar w1 zy b R) (hx : ids[j]? = some x5) (hf : fl[j]? = some f) : IRd zy b R g5 g6 j x5 f w1 := by
  refine ⟨hy, ?_, ?_⟩
  · obtain ⟨a', c', e', h6⟩ := h.o5.see
    cases e'
    rcases h6 with e | ⟨g, e, -, h7⟩
    · rw [e] at hx; simp at hx
    · cases e; exact h7 j x5 hx
  · obtain ⟨a', c', e', h6⟩ := h.o6.see
    cases e'
    rcases h6 with e | ⟨g, e, -, h7⟩
    · rw [e] at hf; simp at hf
    · cases e; exact h7 j f hf
theorem OwnB.fz {g n cp B : Nat} (h : OwnB w1 B (.slice (some ⟨g, 0, none⟩) n cp) fl) (j : Nat) : w1.frozen? ⟨g, j, none⟩ = false := by
  have hn : n = fl.length := by
    rcases h.2 with ⟨e, _⟩ | ⟨g', c', cur, e, _⟩
    · cases e
    · cases e; rfl
  subst hn
  exact World.ownsRow.frozenAt h j
theorem IRow.ptrs {a5 a6 : Option Addr} {n c5 c6 j : Nat} {x5 : Int} {f : Bool} (h : IRow w0 b c r w.heap.size t1 G1 w1 w.heap.size (.slice a5 n c5) (.slice a6 n c6) ids fl) (hx : ids[j]? = some x5) (hf : fl[j]? = some f) : ∃ g5 g6, a5 = some ⟨g5, 0, none⟩ ∧ a6 = some ⟨g6, 0, none⟩ := by
  obtain ⟨a', c', e', h6⟩ := h.o5.see
  simp only [Value.slice.injEq] at e'
  obtain ⟨rfl, -, -⟩ := e'
  obtain ⟨a2', c2', e2', h8⟩ := h.o6.see
  simp only [Value.slice.injEq] at e2'
  obtain ⟨rfl, -, -⟩ := e2'
  rcases h6 with e | ⟨g, e, -, h7⟩
  · rw [e] at hx; simp at hx
  rcases h8 with e2 | ⟨g2, e2, -, h9⟩
  · rw [e2] at hf; simp at hf
  exact ⟨g, g2, e, e2⟩
theorem IMid.id_lt (h : IMid w0 b c r G w top S P A i q ids fl v5 v6 t1 G1 m1 B w1) (hi : i ≤ 200) {k : Nat} {id : Int} (hk : ids[k]? = some id) : id < 9223372036854775808 := by
  have hl := (List.getElem?_eq_some_iff.1 hk).1
  obtain ⟨g, p, b1, e, h1, hp, hb1, h2, h3⟩ := h.td.ok k id _ hk (List.getElem?_eq_getElem (by rw [h.td.len]; exact hl))
  have hb := h.rm.bv b1 (List.mem_of_getElem? hb1)
  cases hf : fl[k]'(by rw [h.td.len]; exact hl) with
  | true => have := h2 hf; omega
  | false => have := h3 hf; omega
end
set_option maxHeartbeats 8000000 in
theorem ids1_any {w0 w : World} {b c r : Nat} {G : List (Nat × List Sw)} {m : M} {R : Rg} {S P A : List Int} {B0 : List (Int × Int)} {zy za : Nat} (h : HasE w0 b c r G w m) (hr : RM 0 m R.top S P 0 A B0) (h0 : Told B0 [] []) (hP8 : P.length ≤ 8) (hc : m.count ≤ 600) (hy : YVar w zy b R) (ly : LocM w0 b c r G w zy) (hrg : RgL w0 b c r G w R S P)
    (a0 : Option Addr) (L cap : Nat) (l : List Ac) (hl : l.length = L) (hL : L ≤ 150) (hacts : Acts w0 a0 l) (hok : ActsOk l) (ca : w.cell? ⟨za, 0, none⟩ = some (.slice a0 L cap)) (la : LocM w0 b c r G w za) :
    Calls Tryd.prog 32 (#[.pointer (some ⟨w.heap.size, 0, none⟩)] ++ #[.pointer (some ⟨za, 0, none⟩), .pointer (some ⟨zy, 0, none⟩)]) (w.alloc (portObj b)) fun e w' => ∃ u, e = .returned u ∧ u = .iface 4 (.bool true) ∧ ButN [b, c, r] w.heap.size w w' := by
  have hD := Dgo.start h (Z := [b, c, r]) ⟨by simp, by simp, by simp⟩
  have HK := Lib.hid (fun (t1 : Value) (G1 : List (Nat × List Sw)) (w1 : World) (m1 : M) (s1 : Pt) (hd : Dgo w0 b c r w.heap.size [b, c, r] w t1 G G1 w1 m1 s1) => (⟨hy.in_ ly hd, hrg.at_ hd, la.cellD hd ca, hacts.below hd.sys.mem.ge.2.2.2⟩ : _ ∧ _ ∧ _ ∧ _))
  have HH : Hid (∃ t1 G1 m1 B, IMid w0 b c r G w R.top S P A 0 0 [] [] (.slice none 0 0) (.slice none 0 0) t1 G1 m1 B (w.alloc (portObj b))) := ⟨_, _, _, _, hD, IRow.start, hr, h0, by simpa using hc, by simp⟩
  have HL := Lib.hid (⟨hl, hP8, hrg.pn, hr.pf, hr.bl⟩ : l.length = L ∧ P.length ≤ 8 ∧ R.pn = P.length ∧ _ ∧ _)
  have HO := Lib.hid hok
  have hmk := mkb4
  have hL2 : (L : Int) ≤ 150 := by omega
  show Calls Tryd.prog 32 #[.pointer (some ⟨w.heap.size, 0, none⟩), .pointer (some ⟨za, 0, none⟩), .pointer (some ⟨zy, 0, none⟩)] (w.alloc (portObj b)) _
  clear h hr h0 hP8 hc hy ly hrg hl hacts hok ca la hD
  generalize w.alloc (portObj b) = wp at *
  go_enter Tryd.func32, Tryd.ntmps32
  go_wp2_with fail
  go_loopw [5, 6, 7] (fun lv5 lv6 iv wr => ∃ (i : Nat) (ids : List Int) (fl : List Bool) (a5 a6 : Option Addr) (c5 c6 n : Nat), iv = .int .i64 (i : Int) ∧ i ≤ L ∧ lv5 = .slice a5 n c5 ∧ lv6 = .slice a6 n c6 ∧ n ≤ 150 ∧ Hid (ids.length = n ∧ ∃ t1 G1 m1 B, IMid w0 b c r G w R.top S P A i 0 ids fl (.slice a5 n c5) (.slice a6 n c6) t1 G1 m1 B wr)) (fun _ _ iv _ => L - (intOf iv).toNat)
  case atStart => exact ⟨0, [], [], none, none, 0, 0, 0, rfl, Nat.zero_le _, rfl, rfl, by decide, rfl, HH.out⟩
  case round =>
    obtain ⟨i, ids, fl, a5, a6, c5, c6, n, rfl, hi, rfl, rfl, hn, hR⟩ := hrel
    clear HH
    obtain ⟨hlen, t1, G1, m1, B, hM⟩ := hR.out
    obtain ⟨⟨y0, y1, y2, y3, -⟩, hrg1, ca1, hac⟩ := HK.out _ _ _ _ _ hM.dgo
    have HM := Lib.hid hM
    have HLen := Lib.hid hlen
    have HRg := Lib.hid hrg1
    have hn2 : (n : Int) ≤ 150 := by omega
    by_cases hlt : i < L
    · have i1 : (i : Int) < (L : Int) := by omega
      obtain ⟨ab, off, ea, hat⟩ : ∃ ab off, a0 = some ⟨ab, off, none⟩ ∧ ∀ k (hk : k < l.length), AcAt wr ab (off + k * 5) (l[k]'hk) := by
        rcases hac with e | ⟨ab, off, e, _, h3⟩
        · exfalso; have := HL.out.1; rw [e] at this; simp at this; omega
        · exact ⟨ab, off, e, h3⟩
      have hxa := hat i (by rw [HL.out.1]; exact hlt)
      have hxo := HO.out (l[i]'(by rw [HL.out.1]; exact hlt)) (List.getElem_mem _)
      generalize hxe : l[i]'(by rw [HL.out.1]; exact hlt) = x at hxa hxo
      obtain ⟨x0, x1, x2, x3, x4⟩ := hxa
      obtain ⟨p0, p1, -, p2, -⟩ := hxo
      subst ea
      have hle6 : fl.length = n := by rw [hM.td.len]; exact hlen
      have HLe6 := Lib.hid hle6
      have hsee6 := hM.row.o6.see
      have HS6 := Lib.hid hsee6
      clear hR hM hat hxe hac hrg1 hlen hle6 hsee6
      go_wp2_with fail
      go_loopw [8, 9] (fun nv kv wk => ∃ k : Nat, kv = .int .i64 (k : Int) ∧ k ≤ n ∧ nv = .int .i64 (((fl.take k).countP id : Nat) : Int) ∧ wk = wr) (fun nv kv _ => n - (intOf kv).toNat)
      case atStart => exact ⟨0, rfl, Nat.zero_le _, rfl, rfl⟩
      case round =>
        obtain ⟨k, rfl, hk, rfl, rfl⟩ := hrel
        have hcle : (fl.take k).countP id ≤ k := Nat.le_trans List.countP_le_length (by rw [List.length_take]; omega)
        have hcle2 : (((fl.take k).countP id : Nat) : Int) ≤ 150 := by omega
        by_cases hkn : k < n
        · have k1 : (k : Int) < (n : Int) := by omega
          have hf : fl[k]? = some (fl[k]'(by rw [HLe6.out]; exact hkn)) := List.getElem?_eq_getElem _
          have htk : (fl.take (k + 1)).countP id = (fl.take k).countP id + (if fl[k]'(by rw [HLe6.out]; exact hkn) = true then 1 else 0) := by
            rw [List.take_add_one, List.countP_append, hf]
            simp
          generalize fl[k]'(by rw [HLe6.out]; exact hkn) = f at hf htk
          obtain ⟨g6, e6, k6⟩ : ∃ g6, a6 = some ⟨g6, 0, none⟩ ∧ wr.cell? ⟨g6, k, none⟩ = some (.bool f) := by
            obtain ⟨a', c', e', h6⟩ := HS6.out
            cases e'
            rcases h6 with e | ⟨g6, e, -, h7⟩
            · rw [e] at hf; simp at hf
            · exact ⟨g6, e, h7 k f hf⟩
          have HT := Lib.hid htk
          generalize (fl.take k).countP id = ct at *
          clear hf htk
          subst e6
          cases f with
          | true =>
            go_wp2_with fail
            go_roundw
            case rel => exact ⟨k + 1, by simp, by omega, by have := HT.out; simp at this; rw [this]; simp, trivial⟩
            case measure => simp [intOf]; omega
          | false =>
            go_wp2_with fail
            go_roundw
            case rel => exact ⟨k + 1, by simp, by omega, by have := HT.out; simp at this; rw [this], trivial⟩
            case measure => simp [intOf]; omega
        · obtain rfl : k = n := by omega
          have hall : (fl.take k).countP id = nOpen B := by rw [← HLe6.out, List.take_length]; exact HM.out.td.cnt
          rw [hall] at hcle hcle2 ⊢
          have HNn := Lib.hid hcle
          generalize hnn : nOpen B = nn at *
          have HOp := Lib.hid hnn
          clear hall hnn hcle
          by_cases hpar : x.act % 2 = 0
          · have hop := open_E HM.out.dgo.sys (by have := HM.out.cnt; omega) HRg.out (i : Int)
            have hgo := HM.out.rm.opens (v := (i : Int)) (by omega) (by omega) P.length 0 (by omega)
            simp only [List.drop_zero] at hgo
            have eo : openP (i : Int) P = openL (i : Int) 0 P := if_pos (decide_eq_true (by omega))
            have hoi := openI_is B 0
            have hpn : ((R.pn : Nat) : Int) = (P.length : Int) := by rw [HL.out.2.2.1]
            unfold Rg.v at hop
            have HGo := Lib.hid hgo
            have HOI := Lib.hid hoi
            have HEo := Lib.hid eo
            have HPn := Lib.hid hpn
            clear hgo hoi eo hpn
            go_wp2_with fail
            refine hop.mono ?_
            rintro e w2 hE
            obtain ⟨t2, G2, v, rfl, hv, ha⟩ := hE.done (ptDo_quiet w b)
            replace hv : v = .tuple #[.int .i64 ((openP (i : Int) P).go m1).1.1, .int .i64 ((openP (i : Int) P).go m1).1.2] := hv
            rw [HEo.out] at hv ha
            have hgo := HGo.out
            have hoi := HOI.out
            cases hq : openI 0 B with
            | some kp =>
              rw [hq] at hgo hoi
              obtain ⟨b0, m2, hb0, hneg, e1, hr2, hc2⟩ := hgo
              rw [e1] at hv ha
              simp only at hv ha
              subst hv
              have hbv := HM.out.rm.bv b0 (List.mem_of_getElem? hb0)
              have hkp : kp < P.length := by have := (List.getElem?_eq_some_iff.1 hb0).1; have := HM.out.rm.bl; omega
              have td2 := HM.out.td.add (v := (i : Int)) hb0 (by have := HL.out.2.1; omega) hneg hbv.1 (by omega)
              have hnl := hoi.2 kp rfl
              have hM2 : Dgo w0 b c r w.heap.size [b, c, r] w t2 G G2 w2 m2 (ptDo w b) := HM.out.dgo.aft ha
              have hro2 := HM.out.row.aft ha
              have hun : ∀ (j : Nat) (id : Int), ids[j]? = some id → id ≠ b0.1 * 64 + (kp : Int) := fun j id hj => by
                have hl2 := (List.getElem?_eq_some_iff.1 hj).1
                exact (HM.out.td.ok j id _ hj (List.getElem?_eq_getElem (by rw [HM.out.td.len]; exact hl2))).unlike hb0 (by have := HL.out.2.1; omega) hneg
              have i2 : ¬ ((nn : Int) = (R.pn : Int)) := by have := HPn.out; have := HOp.out; have := HM.out.rm.bl; omega
              obtain ⟨⟨y0, y1, y2, y3, -⟩, hrg2, ca2, -⟩ := HK.out _ _ _ _ _ hM2
              generalize hz : b0.1 * 64 + (kp : Int) = z at *
              have HUn := Lib.hid hun
              have HD2 := Lib.hid (⟨hM2, hro2, td2, hr2, by have := HM.out.cnt; have := HL.out.2.1; omega⟩ : _ ∧ _ ∧ _ ∧ _ ∧ m2.count ≤ 600 + 400 * i + 100)
              have hsee5 := hro2.o5.see
              have HS5 := Lib.hid hsee5
              clear hop hE ha hb0 hneg e1 hr2 hc2 hbv hkp td2 hnl hM2 hro2 hun hrg2 hz hoi hq HGo HOI HEo hsee5
              go_wp2_with fail
              go_loopw [12] (fun jv wk2 => ∃ j : Nat, jv = .int .i64 (j : Int) ∧ j ≤ k ∧ wk2 = w2) (fun jv _ => k - (intOf jv).toNat)
              case atStart => exact ⟨0, rfl, Nat.zero_le _, rfl⟩
              case round =>
                obtain ⟨j, rfl, hj, rfl⟩ := hrel
                by_cases hjn : j < k
                · have j1 : (j : Int) < (k : Int) := by omega
                  have hx5 : ids[j]? = some (ids[j]'(by rw [HLen.out]; exact hjn)) := List.getElem?_eq_getElem _
                  have hne := HUn.out j _ hx5
                  generalize ids[j]'(by rw [HLen.out]; exact hjn) = x5 at hx5 hne
                  obtain ⟨g5, e5, k5⟩ : ∃ g5, a5 = some ⟨g5, 0, none⟩ ∧ wr.cell? ⟨g5, j, none⟩ = some (.int .i64 x5) := by
                    obtain ⟨a', c', e', h6⟩ := HS5.out
                    cases e'
                    rcases h6 with e | ⟨g6, e, -, h7⟩
                    · rw [e] at hx5; simp at hx5
                    · exact ⟨g6, e, h7 j x5 hx5⟩
                  clear hx5
                  subst e5
                  go_wp2_with fail
                  go_roundw
                  case rel => exact ⟨j + 1, by simp, by omega, trivial⟩
                  case measure => simp [intOf]; omega
                · obtain rfl : j = k := by omega
                  go_wp2_with (at_builtin; first
                    | (refine append1 rfl (.tmp 79) (.tmp 81) rfl w.heap.size (.slice a5 j c5) ids z rfl (HD2.out.2.1.o5.below ((Below.refl _ _).alloc (Nat.le_refl _) _)) wr.heap.size 1 rfl (alloc_cell _ _ _ 0 _ rfl) (by have := HLen.out; omega) (by have := HD2.out.1.but.size; simp; omega) ?_
                       intro v' w3 hown hgrow hblk
                       have H3 := Lib.hid (⟨hown, hgrow, hblk⟩ : _ ∧ _ ∧ _)
                       clear hown hgrow hblk
                       have hbz := (Below.refl wr.heap.size wr).alloc (Nat.le_refl _) (.cells #[.int .i64 z] 3)
                       have hd3 := (HD2.out.1.later hbz).grown H3.out.2.1 (fun kk hkk => ⟨(HD2.out.2.1.later hbz).l5 kk hkk, (HD2.out.2.1.o5.lt kk hkk).1⟩)
                       have hr3 := (HD2.out.2.1.later hbz).grow5 (HD2.out.1.later hbz).sys H3.out.1 H3.out.2.1 H3.out.2.2
                       obtain ⟨a5', c5', ev5, -⟩ := hr3.o5.see
                       have hl5 : (ids ++ [z]).length = j + 1 := by simp [HLen.out]
                       rw [hl5] at ev5
                       subst ev5
                       have HD3 := Lib.hid (⟨hd3, hr3⟩ : _ ∧ _)
                       have HL5 := Lib.hid hl5
                       clear hbz hd3 hr3 hl5 H3)
                    | (refine appendB rfl (.tmp 83) (.tmp 84) rfl w.heap.size (.slice a6 j c6) fl true rfl ((HD3.out.2.o6).of (fun kk hkk => ((Below.refl w3.heap.size w3).alloc (Nat.le_refl _) _).block kk (HD3.out.2.o6.lt kk hkk).2)) w3.heap.size 1 rfl (alloc_cell _ _ _ 0 _ rfl) (by have := HLe6.out; omega) (by have := HD3.out.1.but.size; simp; omega) ?_
                       intro v'' w4 hown hgrow hblk
                       have H4 := Lib.hid (⟨hown, hgrow, hblk⟩ : _ ∧ _ ∧ _)
                       clear hown hgrow hblk))
                  have hbz := (Below.refl w3.heap.size w3).alloc (Nat.le_refl _) (.cells #[.bool true] 4)
                  have hd4 := (HD3.out.1.later hbz).grown H4.out.2.1 (fun kk hkk => ⟨(HD3.out.2.later hbz).l6 kk hkk, (HD3.out.2.o6.lt kk hkk).1⟩)
                  have hr4 := (HD3.out.2.later hbz).grow6 (HD3.out.1.later hbz).sys H4.out.1 H4.out.2.1 H4.out.2.2
                  obtain ⟨a6', c6', ev6, -⟩ := hr4.o6.see
                  have hl6 : (fl ++ [true]).length = j + 1 := by simp [HLe6.out]
                  rw [hl6] at ev6
                  subst ev6
                  have HN4 : Hid (IMid w0 b c r G w R.top S P A (i + 1) (-300) (ids ++ [z]) (fl ++ [true]) (.slice a5' (j + 1) c5') (.slice a6' (j + 1) c6') t2 G2 m2 (B.set kp (b0.1, (i : Int))) w4) :=
                    ⟨hd4, hr4, HD2.out.2.2.2.1, HD2.out.2.2.1, by have := HD2.out.2.2.2.2; push_cast; omega, by rw [HL5.out]; have := HM.out.le; have := HLen.out; omega⟩
                  have hlo : j + 1 ≤ 150 := by have := HM.out.le; have := HLen.out; omega
                  have HLn4 := HL5
                  clear hbz hd4 hr4 hl6 H4 HD3 HD2
                  generalize hj4 : j + 1 = n4 at *
                  go_wp2_with fail
                  go_loopw [14] (fun kv wk => ∃ q : Nat, kv = .int .i64 (q : Int) ∧ q ≤ n4 ∧ Hid (∃ t3 G3 m3, IMid w0 b c r G w R.top S P A (i + 1) ((q : Int) - 300) (ids ++ [z]) (fl ++ [true]) (.slice a5' n4 c5') (.slice a6' n4 c6') t3 G3 m3 (B.set kp (b0.1, (i : Int))) wk)) (fun kv _ => n4 - (intOf kv).toNat)
                  case atStart => exact ⟨0, rfl, Nat.zero_le _, t2, G2, m2, HN4.out⟩
                  case round =>
                    obtain ⟨q, rfl, hqn, hQ⟩ := hrel
                    clear HN4
                    obtain ⟨t3, G3, m3, hM3⟩ := hQ.out
                    have hlo2 : (n4 : Int) ≤ 150 := by omega
                    by_cases hql : q < n4
                    · have q1 : (q : Int) < (n4 : Int) := by omega
                      obtain ⟨x5, hx5⟩ : ∃ x5, ((ids ++ [z]))[q]? = some x5 := ⟨_, List.getElem?_eq_getElem (by rw [HLn4.out]; exact hql)⟩
                      obtain ⟨f, hf⟩ : ∃ f, ((fl ++ [true]))[q]? = some f := ⟨_, List.getElem?_eq_getElem (by rw [hM3.td.len, HLn4.out]; exact hql)⟩
                      obtain ⟨g5, g6, e5, e6⟩ := hM3.row.ptrs hx5 hf
                      subst e5
                      subst e6
                      have hid := hM3.td.ok q x5 f hx5 hf
                      have hlt5 := hM3.id_lt (by omega) hx5
                      obtain ⟨m4, e4, hr4, hc4⟩ := hM3.rm.findv (by omega) x5
                      obtain ⟨fa, fe, e4', hfe⟩ : ∃ fa fe : Int, (findVP x5 P).go m3 = ((fa, fe), m4) ∧ (fe == 0) = f := by
                        cases f with
                        | true =>
                          obtain ⟨kk, bb, e⟩ := hid.find.1 rfl
                          rw [e] at e4
                          exact ⟨bb.2, 0, e4, rfl⟩
                        | false =>
                          rw [hid.find.2 rfl] at e4
                          exact ⟨0, 2, e4, rfl⟩
                      have HF : Hid (∀ W, Below wr.heap.size wr W → IRd zy b R g5 g6 q x5 f W) := fun W hW => (hM3.later hW).row.rd (HK.out _ _ _ _ _ (hM3.later hW).dgo).1 hx5 hf
                      have HU : Hid (∀ W, Below wr.heap.size wr W → Calls Tryd.prog 33 #[.pointer (some ⟨w.heap.size, 0, none⟩), .agg #[.int .i64 R.top, .slice R.sa R.sn R.sc, .slice R.pa R.pn R.pc], .int .i64 x5] W fun e w' => ∃ u, e = .returned u ∧ (u = .tuple #[.int .i64 fa, .int .i64 fe] ∧ ∃ t4 G4, IMid w0 b c r G w R.top S P A (i + 1) (((q + 1 : Nat) : Int) - 300) (ids ++ [z]) (fl ++ [true]) (.slice (some ⟨g5, 0, none⟩) n4 c5') (.slice (some ⟨g6, 0, none⟩) n4 c6') t4 G4 m4 (B.set kp (b0.1, (i : Int))) w') ∧ IRd zy b R g5 g6 q x5 f w') := fun W hW => by
                        refine (findv_E (hM3.later hW).dgo.sys (by have := hM3.cnt; omega) (HK.out _ _ _ _ _ (hM3.later hW).dgo).2.1 x5 hlt5).mono fun e w' hE => ?_
                        obtain ⟨t4, G4, v, rfl, hv, ha⟩ := hE.done (ptDo_quiet w b)
                        replace hv : v = .tuple #[.int .i64 ((findVP x5 P).go m3).1.1, .int .i64 ((findVP x5 P).go m3).1.2] := hv
                        rw [e4'] at hv ha
                        have hM4 := (hM3.later hW).aft (q' := ((q + 1 : Nat) : Int) - 300) ha hr4 (by have := hM3.cnt; push_cast; omega)
                        exact ⟨v, rfl, ⟨hv, t4, G4, hM4⟩, hM4.row.rd (HK.out _ _ _ _ _ hM4.dgo).1 hx5 hf⟩
                      have HFe := Lib.hid hfe
                      clear hQ hM3 hid hlt5 e4 hr4 hc4 e4' hfe hx5 hf
                      go_wp2_with fail
                      refine FreeV.region_puts (S := (QMid wr 7 (IRd zy b R g5 g6 q x5 f) (fun u W => u = .tuple #[.int .i64 fa, .int .i64 fe] ∧ ∃ t4 G4, IMid w0 b c r G w R.top S P A (i + 1) (((q + 1 : Nat) : Int) - 300) (ids ++ [z]) (fl ++ [true]) (.slice (some ⟨g5, 0, none⟩) n4 c5') (.slice (some ⟨g6, 0, none⟩) n4 c6') t4 G4 m4 (B.set kp (b0.1, (i : Int))) W))) (effs := [7])
                        (tab := [⟨2, fun _ => [.pointer (some ⟨zy, 1, none⟩)], fun _ => .agg #[.int .i64 R.top, .slice R.sa R.sn R.sc, .slice R.pa R.pn R.pc], .read⟩,
                          ⟨5, fun _ => [.slice (some ⟨g5, 0, none⟩) n4 c5', .int .i64 (q : Int)], fun _ => .pointer (some ⟨g5, q, none⟩), .pure⟩,
                          ⟨6, fun _ => [.pointer (some ⟨g5, q, none⟩)], fun _ => .int .i64 x5, .read⟩,
                          ⟨7, fun _ => [.func (.func 33) #[] #[], .pointer (some ⟨w.heap.size, 0, none⟩), .agg #[.int .i64 R.top, .slice R.sa R.sn R.sc, .slice R.pa R.pn R.pc], .int .i64 x5], fun β => (β 7), .get⟩,
                          ⟨9, fun β => [(β 7)], fun _ => .int .i64 fa, .read⟩,
                          ⟨10, fun β => [(β 7)], fun _ => .int .i64 fe, .read⟩])
                        (vs := [([], fun _ => .pointer (some ⟨w.heap.size, 0, none⟩)), ([], fun _ => .pointer (some ⟨zy, 1, none⟩)), ([], fun _ => .agg #[.int .i64 R.top, .slice R.sa R.sn R.sc, .slice R.pa R.pn R.pc]), ([], fun _ => .slice (some ⟨g5, 0, none⟩) n4 c5'), ([], fun _ => .int .i64 (q : Int)), ([], fun _ => .pointer (some ⟨g5, q, none⟩)), ([], fun _ => .int .i64 x5), ([7], fun l => l.headD undef), ([7], fun l => l.headD undef), ([], fun _ => .int .i64 fa), ([], fun _ => .int .i64 fe), ([], fun _ => .int .i64 fa), ([], fun _ => .int .i64 fe)])
                        (by kernel_rfl) ⟨by kernel_rfl, ⟨FreeV.d_load _ rfl rfl (fun β bs w h hd => h.2.2.r.loadR),
                          FreeV.d_at _ rfl rfl (fun _ w => at_31 _ _ _ _ hql w),
                          FreeV.d_load _ rfl rfl (fun β bs w h hd => load_3 h.2.2.i5),
                          FreeV.d_get3 _ rfl rfl enter_33 0 rfl (fun β bs w h hd => qmid_call h ((hd 0 7 rfl).2 (.inr rfl)) HU.out),
                          FreeV.d_extract _ rfl rfl (fun β bs w h hd => by rw [(h.2.1 ((hd 0 7 rfl).1 (by kernel_rfl))).1]; rfl),
                          FreeV.d_extract _ rfl rfl (fun β bs w h hd => by rw [(h.2.1 ((hd 0 7 rfl).1 (by kernel_rfl))).1]; rfl),
                          trivial⟩,
                          fun β => by kernel_rfl, fun β => by kernel_rfl, by kernel_rfl, fun β => by kernel_rfl, by kernel_rfl⟩ (qmid_start HF.out) (fun β => Free.from_ 130 [.pointer (some ⟨w.heap.size, 0, none⟩), .pointer (some ⟨zy, 1, none⟩), .agg #[.int .i64 R.top, .slice R.sa R.sn R.sc, .slice R.pa R.pn R.pc], .slice (some ⟨g5, 0, none⟩) n4 c5', .int .i64 (q : Int), .pointer (some ⟨g5, q, none⟩), .int .i64 x5, (β 7)] ++ [(129, (β 7)), (138, .int .i64 fa), (139, .int .i64 fe), (15, .int .i64 fa), (16, .int .i64 fe)]) (fun β => by kernel_rfl) ?_
                      intro β w9 h9
                      rw [FreeX.puts_append, Free.puts_from _ _ _ (Nat.le_of_ble_eq_true rfl)]
                      simp only [List.take_succ_cons, List.take_zero, List.drop_succ_cons, List.drop_zero, List.cons_append, List.nil_append, List.length_cons, List.length_nil, Nat.reduceAdd]
                      unfold Free.puts
                      simp only [List.foldl_cons, List.foldl_nil]
                      have k6 := h9.2.2.i6
                      obtain ⟨e7, t4, G4, hM4⟩ := h9.2.1 rfl
                      have HM4 := Lib.hid hM4
                      have hfe := HFe.out
                      clear h9 e7 hM4 HU HF HFe
                      cases f with
                      | true =>
                        have hfe2 : fe = 0 := by simpa using hfe
                        subst hfe2
                        clear hfe
                        go_wp2_with fail
                        first
                          | (go_roundw
                             case rel => exact ⟨q + 1, by simp, by omega, _, _, _, HM4.out⟩
                             case measure => simp [intOf]; omega)
                          | (refine ⟨?_, ?measure⟩
                             (repeat apply Exists.intro)
                             refine ⟨?rel, rfl⟩
                             case rel => exact ⟨q + 1, by go_num, by omega, _, _, _, HM4.out⟩
                             case measure => simp [intOf]; omega)
                      | false =>
                        have hfe2 : ¬ fe = 0 := by simpa using hfe
                        clear hfe
                        go_wp2_with fail
                        first
                          | (go_roundw
                             case rel => exact ⟨q + 1, by simp, by omega, _, _, _, HM4.out⟩
                             case measure => simp [intOf]; omega)
                          | (refine ⟨?_, ?measure⟩
                             (repeat apply Exists.intro)
                             refine ⟨?rel, rfl⟩
                             case rel => exact ⟨q + 1, by go_num, by omega, _, _, _, HM4.out⟩
                             case measure => simp [intOf]; omega)
                    · obtain rfl : q = n4 := by omega
                      have HE4 := Lib.hid (hM3.more (q' := 0) (by omega))
                      clear hQ hM3
                      go_wp2_with fail
                      go_roundw
                      case rel => exact ⟨i + 1, (ids ++ [z]), (fl ++ [true]), a5', a6', c5', c6', q, by simp, by omega, rfl, rfl, hlo, HLn4.out, _, _, _, _, HE4.out⟩
                      case measure => simp [intOf]; omega
            | none =>
              rw [hq] at hgo hoi
              obtain ⟨m2, e1, hr2, hc2⟩ := hgo
              rw [e1] at hv ha
              simp only at hv ha
              subst hv
              have hnl := hoi.1.1 rfl
              have HN2 : Hid (IMid w0 b c r G w R.top S P A (i + 1) (-300) ids fl (.slice a5 k c5) (.slice a6 k c6) t2 G2 m2 B w2) :=
                ⟨HM.out.dgo.aft ha, HM.out.row.aft ha, hr2.more (by omega), HM.out.td, by have := HM.out.cnt; have := HL.out.2.1; push_cast; omega, by have := HM.out.le; omega⟩
              have i2 : (nn : Int) = (R.pn : Int) := by have := HPn.out; have := HOp.out; have := HM.out.rm.bl; omega
              obtain ⟨⟨y0, y1, y2, y3, -⟩, -, -, -⟩ := HK.out _ _ _ _ _ HN2.out.dgo
              have HI2 := Lib.hid i2
              clear hop hE ha e1 hr2 hc2 hnl hoi hq HGo HOI HEo i2
              go_wp2_with (rw [HI2.out])
              go_loopw [12] (fun jv wk2 => ∃ j : Nat, jv = .int .i64 (j : Int) ∧ j ≤ k ∧ wk2 = w2) (fun jv _ => k - (intOf jv).toNat)
              case atStart => exact ⟨0, rfl, Nat.zero_le _, rfl⟩
              case round =>
                obtain ⟨j, rfl, hj, rfl⟩ := hrel
                by_cases hjn : j < k
                · have j1 : (j : Int) < (k : Int) := by omega
                  go_wp2_with fail
                  go_roundw
                  case rel => exact ⟨j + 1, by simp, by omega, trivial⟩
                  case measure => simp [intOf]; omega
                · obtain rfl : j = k := by omega
                  have HN4 := HN2
                  have HLn4 := HLen
                  have hlo : j ≤ 150 := hn
                  clear HN2
                  go_wp2_with fail
                  go_loopw [14] (fun kv wk => ∃ q : Nat, kv = .int .i64 (q : Int) ∧ q ≤ j ∧ Hid (∃ t3 G3 m3, IMid w0 b c r G w R.top S P A (i + 1) ((q : Int) - 300) ids fl (.slice a5 j c5) (.slice a6 j c6) t3 G3 m3 B wk)) (fun kv _ => j - (intOf kv).toNat)
                  case atStart => exact ⟨0, rfl, Nat.zero_le _, t2, G2, m2, HN4.out⟩
                  case round =>
                    obtain ⟨q, rfl, hqn, hQ⟩ := hrel
                    clear HN4
                    obtain ⟨t3, G3, m3, hM3⟩ := hQ.out
                    have hlo2 : (j : Int) ≤ 150 := by omega
                    by_cases hql : q < j
                    · have q1 : (q : Int) < (j : Int) := by omega
                      obtain ⟨x5, hx5⟩ : ∃ x5, (ids)[q]? = some x5 := ⟨_, List.getElem?_eq_getElem (by rw [HLn4.out]; exact hql)⟩
                      obtain ⟨f, hf⟩ : ∃ f, (fl)[q]? = some f := ⟨_, List.getElem?_eq_getElem (by rw [hM3.td.len, HLn4.out]; exact hql)⟩
                      obtain ⟨g5, g6, e5, e6⟩ := hM3.row.ptrs hx5 hf
                      subst e5
                      subst e6
                      have hid := hM3.td.ok q x5 f hx5 hf
                      have hlt5 := hM3.id_lt (by omega) hx5
                      obtain ⟨m4, e4, hr4, hc4⟩ := hM3.rm.findv (by omega) x5
                      obtain ⟨fa, fe, e4', hfe⟩ : ∃ fa fe : Int, (findVP x5 P).go m3 = ((fa, fe), m4) ∧ (fe == 0) = f := by
                        cases f with
                        | true =>
                          obtain ⟨kk, bb, e⟩ := hid.find.1 rfl
                          rw [e] at e4
                          exact ⟨bb.2, 0, e4, rfl⟩
                        | false =>
                          rw [hid.find.2 rfl] at e4
                          exact ⟨0, 2, e4, rfl⟩
                      have HF : Hid (∀ W, Below wr.heap.size wr W → IRd zy b R g5 g6 q x5 f W) := fun W hW => (hM3.later hW).row.rd (HK.out _ _ _ _ _ (hM3.later hW).dgo).1 hx5 hf
                      have HU : Hid (∀ W, Below wr.heap.size wr W → Calls Tryd.prog 33 #[.pointer (some ⟨w.heap.size, 0, none⟩), .agg #[.int .i64 R.top, .slice R.sa R.sn R.sc, .slice R.pa R.pn R.pc], .int .i64 x5] W fun e w' => ∃ u, e = .returned u ∧ (u = .tuple #[.int .i64 fa, .int .i64 fe] ∧ ∃ t4 G4, IMid w0 b c r G w R.top S P A (i + 1) (((q + 1 : Nat) : Int) - 300) ids fl (.slice (some ⟨g5, 0, none⟩) j c5) (.slice (some ⟨g6, 0, none⟩) j c6) t4 G4 m4 B w') ∧ IRd zy b R g5 g6 q x5 f w') := fun W hW => by
                        refine (findv_E (hM3.later hW).dgo.sys (by have := hM3.cnt; omega) (HK.out _ _ _ _ _ (hM3.later hW).dgo).2.1 x5 hlt5).mono fun e w' hE => ?_
                        obtain ⟨t4, G4, v, rfl, hv, ha⟩ := hE.done (ptDo_quiet w b)
                        replace hv : v = .tuple #[.int .i64 ((findVP x5 P).go m3).1.1, .int .i64 ((findVP x5 P).go m3).1.2] := hv
                        rw [e4'] at hv ha
                        have hM4 := (hM3.later hW).aft (q' := ((q + 1 : Nat) : Int) - 300) ha hr4 (by have := hM3.cnt; push_cast; omega)
                        exact ⟨v, rfl, ⟨hv, t4, G4, hM4⟩, hM4.row.rd (HK.out _ _ _ _ _ hM4.dgo).1 hx5 hf⟩
                      have HFe := Lib.hid hfe
                      clear hQ hM3 hid hlt5 e4 hr4 hc4 e4' hfe hx5 hf
                      go_wp2_with fail
                      refine FreeV.region_puts (S := (QMid wr 7 (IRd zy b R g5 g6 q x5 f) (fun u W => u = .tuple #[.int .i64 fa, .int .i64 fe] ∧ ∃ t4 G4, IMid w0 b c r G w R.top S P A (i + 1) (((q + 1 : Nat) : Int) - 300) ids fl (.slice (some ⟨g5, 0, none⟩) j c5) (.slice (some ⟨g6, 0, none⟩) j c6) t4 G4 m4 B W))) (effs := [7])
                        (tab := [⟨2, fun _ => [.pointer (some ⟨zy, 1, none⟩)], fun _ => .agg #[.int .i64 R.top, .slice R.sa R.sn R.sc, .slice R.pa R.pn R.pc], .read⟩,
                          ⟨5, fun _ => [.slice (some ⟨g5, 0, none⟩) j c5, .int .i64 (q : Int)], fun _ => .pointer (some ⟨g5, q, none⟩), .pure⟩,
                          ⟨6, fun _ => [.pointer (some ⟨g5, q, none⟩)], fun _ => .int .i64 x5, .read⟩,
                          ⟨7, fun _ => [.func (.func 33) #[] #[], .pointer (some ⟨w.heap.size, 0, none⟩), .agg #[.int .i64 R.top, .slice R.sa R.sn R.sc, .slice R.pa R.pn R.pc], .int .i64 x5], fun β => (β 7), .get⟩,
                          ⟨9, fun β => [(β 7)], fun _ => .int .i64 fa, .read⟩,
                          ⟨10, fun β => [(β 7)], fun _ => .int .i64 fe, .read⟩])
                        (vs := [([], fun _ => .pointer (some ⟨w.heap.size, 0, none⟩)), ([], fun _ => .pointer (some ⟨zy, 1, none⟩)), ([], fun _ => .agg #[.int .i64 R.top, .slice R.sa R.sn R.sc, .slice R.pa R.pn R.pc]), ([], fun _ => .slice (some ⟨g5, 0, none⟩) j c5), ([], fun _ => .int .i64 (q : Int)), ([], fun _ => .pointer (some ⟨g5, q, none⟩)), ([], fun _ => .int .i64 x5), ([7], fun l => l.headD undef), ([7], fun l => l.headD undef), ([], fun _ => .int .i64 fa), ([], fun _ => .int .i64 fe), ([], fun _ => .int .i64 fa), ([], fun _ => .int .i64 fe)])
                        (by kernel_rfl) ⟨by kernel_rfl, ⟨FreeV.d_load _ rfl rfl (fun β bs w h hd => h.2.2.r.loadR),
                          FreeV.d_at _ rfl rfl (fun _ w => at_31 _ _ _ _ hql w),
                          FreeV.d_load _ rfl rfl (fun β bs w h hd => load_3 h.2.2.i5),
                          FreeV.d_get3 _ rfl rfl enter_33 0 rfl (fun β bs w h hd => qmid_call h ((hd 0 7 rfl).2 (.inr rfl)) HU.out),
                          FreeV.d_extract _ rfl rfl (fun β bs w h hd => by rw [(h.2.1 ((hd 0 7 rfl).1 (by kernel_rfl))).1]; rfl),
                          FreeV.d_extract _ rfl rfl (fun β bs w h hd => by rw [(h.2.1 ((hd 0 7 rfl).1 (by kernel_rfl))).1]; rfl),
                          trivial⟩,
                          fun β => by kernel_rfl, fun β => by kernel_rfl, by kernel_rfl, fun β => by kernel_rfl, by kernel_rfl⟩ (qmid_start HF.out) (fun β => Free.from_ 130 [.pointer (some ⟨w.heap.size, 0, none⟩), .pointer (some ⟨zy, 1, none⟩), .agg #[.int .i64 R.top, .slice R.sa R.sn R.sc, .slice R.pa R.pn R.pc], .slice (some ⟨g5, 0, none⟩) j c5, .int .i64 (q : Int), .pointer (some ⟨g5, q, none⟩), .int .i64 x5, (β 7)] ++ [(129, (β 7)), (138, .int .i64 fa), (139, .int .i64 fe), (15, .int .i64 fa), (16, .int .i64 fe)]) (fun β => by kernel_rfl) ?_
                      intro β w9 h9
                      rw [FreeX.puts_append, Free.puts_from _ _ _ (Nat.le_of_ble_eq_true rfl)]
                      simp only [List.take_succ_cons, List.take_zero, List.drop_succ_cons, List.drop_zero, List.cons_append, List.nil_append, List.length_cons, List.length_nil, Nat.reduceAdd]
                      unfold Free.puts
                      simp only [List.foldl_cons, List.foldl_nil]
                      have k6 := h9.2.2.i6
                      obtain ⟨e7, t4, G4, hM4⟩ := h9.2.1 rfl
                      have HM4 := Lib.hid hM4
                      have hfe := HFe.out
                      clear h9 e7 hM4 HU HF HFe
                      cases f with
                      | true =>
                        have hfe2 : fe = 0 := by simpa using hfe
                        subst hfe2
                        clear hfe
                        go_wp2_with fail
                        first
                          | (go_roundw
                             case rel => exact ⟨q + 1, by simp, by omega, _, _, _, HM4.out⟩
                             case measure => simp [intOf]; omega)
                          | (refine ⟨?_, ?measure⟩
                             (repeat apply Exists.intro)
                             refine ⟨?rel, rfl⟩
                             case rel => exact ⟨q + 1, by go_num, by omega, _, _, _, HM4.out⟩
                             case measure => simp [intOf]; omega)
                      | false =>
                        have hfe2 : ¬ fe = 0 := by simpa using hfe
                        clear hfe
                        go_wp2_with fail
                        first
                          | (go_roundw
                             case rel => exact ⟨q + 1, by simp, by omega, _, _, _, HM4.out⟩
                             case measure => simp [intOf]; omega)
                          | (refine ⟨?_, ?measure⟩
                             (repeat apply Exists.intro)
                             refine ⟨?rel, rfl⟩
                             case rel => exact ⟨q + 1, by go_num, by omega, _, _, _, HM4.out⟩
                             case measure => simp [intOf]; omega)
                    · obtain rfl : q = j := by omega
                      have HE4 := Lib.hid (hM3.more (q' := 0) (by omega))
                      clear hQ hM3
                      go_wp2_with fail
                      go_roundw
                      case rel => exact ⟨i + 1, ids, fl, a5, a6, c5, c6, q, by simp, by omega, rfl, rfl, hlo, HLn4.out, _, _, _, _, HE4.out⟩
                      case measure => simp [intOf]; omega
          · obtain ⟨n, hnk⟩ : ∃ n, n = k := ⟨k, rfl⟩
            subst hnk
            have HPb : Hid ((x.act % 2 == 0) = false) := by unfold Hid; simpa using hpar
            by_cases hsk : 0 < n ∧ 0 ≤ x.n
            · obtain ⟨n0, xn0⟩ := hsk
              have n1 : (0 : Int) < (n : Int) := by omega
              obtain ⟨q, hq, e1⟩ : ∃ q : Nat, q < n ∧ x.n % (n : Int) = (q : Int) := by
                have h1 := Int.emod_nonneg x.n (b := (n : Int)) (by omega)
                have h2 := Int.emod_lt_of_pos x.n (b := (n : Int)) (by omega)
                exact ⟨(x.n % (n : Int)).toNat, by omega, by omega⟩
              have E1 := Lib.hid e1
              obtain ⟨x5, hx5⟩ : ∃ x5, ids[q]? = some x5 := ⟨_, List.getElem?_eq_getElem (by rw [HLen.out]; exact hq)⟩
              obtain ⟨f, hf⟩ : ∃ f, fl[q]? = some f := ⟨_, List.getElem?_eq_getElem (by rw [HLe6.out]; exact hq)⟩
              obtain ⟨g5, g6, e5, e6⟩ := HM.out.row.ptrs hx5 hf
              subst e5
              subst e6
              have hid := HM.out.td.ok q x5 f hx5 hf
              have hlt5 := HM.out.id_lt (by omega) hx5
              clear e1
              cases f with
              | true =>
                obtain ⟨kk, bb, hfi⟩ := hid.find.1 rfl
                have hcl := HM.out.rm.close (by omega) x5
                rw [hfi] at hcl
                obtain ⟨m2, e1, hr2, hc2⟩ := hcl
                have htd := HM.out.td.shut hx5 hfi
                have HF : Hid (∀ W, Below wr.heap.size wr W → IRd zy b R g5 g6 q x5 true W) := fun W hW => (HM.out.later hW).row.rd (HK.out _ _ _ _ _ (HM.out.later hW).dgo).1 hx5 hf
                have HU : Hid (∀ W, Below wr.heap.size wr W → Calls Tryd.prog 27 #[.pointer (some ⟨w.heap.size, 0, none⟩), .agg #[.int .i64 R.top, .slice R.sa R.sn R.sc, .slice R.pa R.pn R.pc], .int .i64 x5] W fun e w' => ∃ u, e = .returned u ∧ (u = .int .i64 0 ∧ ∃ t2 G2, Dgo w0 b c r w.heap.size [b, c, r] w t2 G G2 w' m2 (ptDo w b) ∧ IRow w0 b c r w.heap.size t2 G2 w' w.heap.size (.slice (some ⟨g5, 0, none⟩) n c5) (.slice (some ⟨g6, 0, none⟩) n c6) ids fl) ∧ IRd zy b R g5 g6 q x5 true w') := fun W hW => by
                  refine (close_E (HM.out.later hW).dgo.sys (by have := HM.out.cnt; omega) (HK.out _ _ _ _ _ (HM.out.later hW).dgo).2.1 x5 hlt5).mono fun e w' hE => ?_
                  obtain ⟨t4, G4, v, rfl, hv, ha⟩ := hE.done (ptDo_quiet w b)
                  replace hv : v = .int .i64 ((closeP x5 P).go m1).1 := hv
                  rw [e1] at hv ha
                  have hD4 := (HM.out.later hW).dgo.aft ha
                  have hR4 := (HM.out.later hW).row.aft ha
                  exact ⟨v, rfl, ⟨hv, t4, G4, hD4, hR4⟩, hR4.rd (HK.out _ _ _ _ _ hD4).1 hx5 hf⟩
                have HT : Hid (RM ((i : Int) + 1) m2 R.top S P 0 A (B.set kk (bb.1 + 1, -1)) ∧ Told (B.set kk (bb.1 + 1, -1)) ids (fl.set q false) ∧ m2.count ≤ m1.count + 2) := ⟨hr2, htd, hc2⟩
                clear e1 hr2 hc2 htd hfi hid hx5 hf
                go_wp2_with (rw [E1.out])
                refine FreeV.region_puts (S := (QMid wr 7 (IRd zy b R g5 g6 q x5 true) (fun u W => u = .int .i64 0 ∧ ∃ t2 G2, Dgo w0 b c r w.heap.size [b, c, r] w t2 G G2 W m2 (ptDo w b) ∧ IRow w0 b c r w.heap.size t2 G2 W w.heap.size (.slice (some ⟨g5, 0, none⟩) n c5) (.slice (some ⟨g6, 0, none⟩) n c6) ids fl))) (effs := [7])
                  (tab := [⟨2, fun _ => [.pointer (some ⟨zy, 1, none⟩)], fun _ => .agg #[.int .i64 R.top, .slice R.sa R.sn R.sc, .slice R.pa R.pn R.pc], .read⟩,
                    ⟨5, fun _ => [.slice (some ⟨g5, 0, none⟩) n c5, .int .i64 (q : Int)], fun _ => .pointer (some ⟨g5, q, none⟩), .pure⟩,
                    ⟨6, fun _ => [.pointer (some ⟨g5, q, none⟩)], fun _ => .int .i64 x5, .read⟩,
                    ⟨7, fun _ => [.func (.func 27) #[] #[], .pointer (some ⟨w.heap.size, 0, none⟩), .agg #[.int .i64 R.top, .slice R.sa R.sn R.sc, .slice R.pa R.pn R.pc], .int .i64 x5], fun β => (β 7), .get⟩,
                    ⟨8, fun β => [(β 7), .int .i64 0], fun _ => .bool true, .read⟩,
                    ⟨11, fun _ => [.slice (some ⟨g6, 0, none⟩) n c6, .int .i64 (q : Int)], fun _ => .pointer (some ⟨g6, q, none⟩), .pure⟩,
                    ⟨12, fun _ => [.pointer (some ⟨g6, q, none⟩)], fun _ => .bool true, .read⟩,
                    ⟨13, fun _ => [.bool true, .bool true], fun _ => .bool false, .pure⟩])
                  (vs := [([], fun _ => .pointer (some ⟨w.heap.size, 0, none⟩)), ([], fun _ => .pointer (some ⟨zy, 1, none⟩)), ([], fun _ => .agg #[.int .i64 R.top, .slice R.sa R.sn R.sc, .slice R.pa R.pn R.pc]), ([], fun _ => .slice (some ⟨g5, 0, none⟩) n c5), ([], fun _ => .int .i64 (q : Int)), ([], fun _ => .pointer (some ⟨g5, q, none⟩)), ([], fun _ => .int .i64 x5), ([7], fun l => l.headD undef), ([], fun _ => .bool true), ([], fun _ => .slice (some ⟨g6, 0, none⟩) n c6), ([], fun _ => .int .i64 (q : Int)), ([], fun _ => .pointer (some ⟨g6, q, none⟩)), ([], fun _ => .bool true), ([], fun _ => .bool false)])
                  (by kernel_rfl) ⟨by kernel_rfl, ⟨FreeV.d_load _ rfl rfl (fun β bs w h hd => h.2.2.r.loadR),
                    FreeV.d_at _ rfl rfl (fun _ w => at_31 _ _ _ _ hq w),
                    FreeV.d_load _ rfl rfl (fun β bs w h hd => load_3 h.2.2.i5),
                    FreeV.d_get3 _ rfl rfl enter_27 0 rfl (fun β bs w h hd => qmid_call h ((hd 0 7 rfl).2 (.inr rfl)) HU.out),
                    FreeV.d_binr _ rfl rfl (fun β bs xo yo w h hd => eql25_read (h.2.1 ((hd 0 7 rfl).1 (by kernel_rfl))).1 (by decide) xo yo w),
                    FreeV.d_at _ rfl rfl (fun _ w => at_64 _ _ _ _ hq w),
                    FreeV.d_load _ rfl rfl (fun β bs w h hd => load_4 h.2.2.i6),
                    FreeV.d_bin _ rfl rfl (fun _ xo yo w => cmp_neq4 xo yo w (by decide)),
                    trivial⟩,
                    fun β => by kernel_rfl, fun β => by kernel_rfl, by kernel_rfl, fun β => by kernel_rfl, by kernel_rfl⟩ (qmid_start HF.out) (fun β => Free.from_ 105 [.pointer (some ⟨w.heap.size, 0, none⟩), .pointer (some ⟨zy, 1, none⟩), .agg #[.int .i64 R.top, .slice R.sa R.sn R.sc, .slice R.pa R.pn R.pc], .slice (some ⟨g5, 0, none⟩) n c5, .int .i64 (q : Int), .pointer (some ⟨g5, q, none⟩), .int .i64 x5, (β 7), .bool true, .slice (some ⟨g6, 0, none⟩) n c6, .int .i64 (q : Int), .pointer (some ⟨g6, q, none⟩), .bool true, .bool false]) (fun β => by kernel_rfl) ?_
                intro β w8 h8
                rw [Free.puts_from _ _ _ (Nat.le_of_ble_eq_true rfl)]
                simp only [List.take_succ_cons, List.take_zero, List.drop_succ_cons, List.drop_zero, List.cons_append, List.nil_append, List.length_cons, List.length_nil, Nat.reduceAdd]
                obtain ⟨e7, t2, G2, hD2, hR2⟩ := h8.2.1 rfl
                have k6 := h8.2.2.i6
                have hset := hR2.set6 hD2.sys q false
                have hlg := hR2.l6 g6 rfl
                have hD3 : Dgo w0 b c r w.heap.size [b, c, r] w t2 G G2 (w8.setCell ⟨g6, q, none⟩ (.bool false)) m2 (ptDo w b) := hD2.aside ((But.refl _ _).set _ _) hlg (.inr (hR2.o6.lt g6 rfl).1)
                have HN4 : Hid (IMid w0 b c r G w R.top S P A (i + 1) (-300) ids (fl.set q false) (.slice (some ⟨g5, 0, none⟩) n c5) (.slice (some ⟨g6, 0, none⟩) n c6) t2 G2 m2 (B.set kk (bb.1 + 1, -1)) (w8.setCell ⟨g6, q, none⟩ (.bool false))) :=
                  ⟨hD3, hset, by have := HT.out.1; push_cast; exact this, HT.out.2.1, by have := HT.out.2.2; have := HM.out.cnt; push_cast; omega, by have := HM.out.le; omega⟩
                have fz6 := hR2.o6.fz
                have qn1 : (q : Int) < (n : Int) := by omega
                have HLn4 := HLen
                have hlo : n ≤ 150 := hn
                clear h8 e7 hD2 hR2 hset hlg hD3 HU HF HT
                generalize hfl2 : fl.set q false = fl2 at *
                go_wp2_with fail
                (try simp only [HPb.out])
                go_loopw [14] (fun kv wk => ∃ q : Nat, kv = .int .i64 (q : Int) ∧ q ≤ n ∧ Hid (∃ t3 G3 m3, IMid w0 b c r G w R.top S P A (i + 1) ((q : Int) - 300) ids fl2 (.slice (some ⟨g5, 0, none⟩) n c5) (.slice (some ⟨g6, 0, none⟩) n c6) t3 G3 m3 (B.set kk (bb.1 + 1, -1)) wk)) (fun kv _ => n - (intOf kv).toNat)
                case atStart => exact ⟨0, rfl, Nat.zero_le _, t2, G2, m2, HN4.out⟩
                case round =>
                  obtain ⟨q, rfl, hqn, hQ⟩ := hrel
                  clear HN4
                  obtain ⟨t3, G3, m3, hM3⟩ := hQ.out
                  have hlo2 : (n : Int) ≤ 150 := by omega
                  by_cases hql : q < n
                  · have q1 : (q : Int) < (n : Int) := by omega
                    obtain ⟨x5, hx5⟩ : ∃ x5, (ids)[q]? = some x5 := ⟨_, List.getElem?_eq_getElem (by rw [HLn4.out]; exact hql)⟩
                    obtain ⟨f, hf⟩ : ∃ f, (fl2)[q]? = some f := ⟨_, List.getElem?_eq_getElem (by rw [hM3.td.len, HLn4.out]; exact hql)⟩
                    have hid := hM3.td.ok q x5 f hx5 hf
                    have hlt5 := hM3.id_lt (by omega) hx5
                    obtain ⟨m4, e4, hr4, hc4⟩ := hM3.rm.findv (by omega) x5
                    obtain ⟨fa, fe, e4', hfe⟩ : ∃ fa fe : Int, (findVP x5 P).go m3 = ((fa, fe), m4) ∧ (fe == 0) = f := by
                      cases f with
                      | true =>
                        obtain ⟨kk, bb, e⟩ := hid.find.1 rfl
                        rw [e] at e4
                        exact ⟨bb.2, 0, e4, rfl⟩
                      | false =>
                        rw [hid.find.2 rfl] at e4
                        exact ⟨0, 2, e4, rfl⟩
                    have HF : Hid (∀ W, Below wr.heap.size wr W → IRd zy b R g5 g6 q x5 f W) := fun W hW => (hM3.later hW).row.rd (HK.out _ _ _ _ _ (hM3.later hW).dgo).1 hx5 hf
                    have HU : Hid (∀ W, Below wr.heap.size wr W → Calls Tryd.prog 33 #[.pointer (some ⟨w.heap.size, 0, none⟩), .agg #[.int .i64 R.top, .slice R.sa R.sn R.sc, .slice R.pa R.pn R.pc], .int .i64 x5] W fun e w' => ∃ u, e = .returned u ∧ (u = .tuple #[.int .i64 fa, .int .i64 fe] ∧ ∃ t4 G4, IMid w0 b c r G w R.top S P A (i + 1) (((q + 1 : Nat) : Int) - 300) ids fl2 (.slice (some ⟨g5, 0, none⟩) n c5) (.slice (some ⟨g6, 0, none⟩) n c6) t4 G4 m4 (B.set kk (bb.1 + 1, -1)) w') ∧ IRd zy b R g5 g6 q x5 f w') := fun W hW => by
                      refine (findv_E (hM3.later hW).dgo.sys (by have := hM3.cnt; omega) (HK.out _ _ _ _ _ (hM3.later hW).dgo).2.1 x5 hlt5).mono fun e w' hE => ?_
                      obtain ⟨t4, G4, v, rfl, hv, ha⟩ := hE.done (ptDo_quiet w b)
                      replace hv : v = .tuple #[.int .i64 ((findVP x5 P).go m3).1.1, .int .i64 ((findVP x5 P).go m3).1.2] := hv
                      rw [e4'] at hv ha
                      have hM4 := (hM3.later hW).aft (q' := ((q + 1 : Nat) : Int) - 300) ha hr4 (by have := hM3.cnt; push_cast; omega)
                      exact ⟨v, rfl, ⟨hv, t4, G4, hM4⟩, hM4.row.rd (HK.out _ _ _ _ _ hM4.dgo).1 hx5 hf⟩
                    have HFe := Lib.hid hfe
                    clear hQ hM3 hid hlt5 e4 hr4 hc4 e4' hfe hx5 hf
                    go_wp2_with fail
                    refine FreeV.region_puts (S := (QMid wr 7 (IRd zy b R g5 g6 q x5 f) (fun u W => u = .tuple #[.int .i64 fa, .int .i64 fe] ∧ ∃ t4 G4, IMid w0 b c r G w R.top S P A (i + 1) (((q + 1 : Nat) : Int) - 300) ids fl2 (.slice (some ⟨g5, 0, none⟩) n c5) (.slice (some ⟨g6, 0, none⟩) n c6) t4 G4 m4 (B.set kk (bb.1 + 1, -1)) W))) (effs := [7])
                      (tab := [⟨2, fun _ => [.pointer (some ⟨zy, 1, none⟩)], fun _ => .agg #[.int .i64 R.top, .slice R.sa R.sn R.sc, .slice R.pa R.pn R.pc], .read⟩,
                        ⟨5, fun _ => [.slice (some ⟨g5, 0, none⟩) n c5, .int .i64 (q : Int)], fun _ => .pointer (some ⟨g5, q, none⟩), .pure⟩,
                        ⟨6, fun _ => [.pointer (some ⟨g5, q, none⟩)], fun _ => .int .i64 x5, .read⟩,
                        ⟨7, fun _ => [.func (.func 33) #[] #[], .pointer (some ⟨w.heap.size, 0, none⟩), .agg #[.int .i64 R.top, .slice R.sa R.sn R.sc, .slice R.pa R.pn R.pc], .int .i64 x5], fun β => (β 7), .get⟩,
                        ⟨9, fun β => [(β 7)], fun _ => .int .i64 fa, .read⟩,
                        ⟨10, fun β => [(β 7)], fun _ => .int .i64 fe, .read⟩])
                      (vs := [([], fun _ => .pointer (some ⟨w.heap.size, 0, none⟩)), ([], fun _ => .pointer (some ⟨zy, 1, none⟩)), ([], fun _ => .agg #[.int .i64 R.top, .slice R.sa R.sn R.sc, .slice R.pa R.pn R.pc]), ([], fun _ => .slice (some ⟨g5, 0, none⟩) n c5), ([], fun _ => .int .i64 (q : Int)), ([], fun _ => .pointer (some ⟨g5, q, none⟩)), ([], fun _ => .int .i64 x5), ([7], fun l => l.headD undef), ([7], fun l => l.headD undef), ([], fun _ => .int .i64 fa), ([], fun _ => .int .i64 fe), ([], fun _ => .int .i64 fa), ([], fun _ => .int .i64 fe)])
                      (by kernel_rfl) ⟨by kernel_rfl, ⟨FreeV.d_load _ rfl rfl (fun β bs w h hd => h.2.2.r.loadR),
                        FreeV.d_at _ rfl rfl (fun _ w => at_31 _ _ _ _ hql w),
                        FreeV.d_load _ rfl rfl (fun β bs w h hd => load_3 h.2.2.i5),
                        FreeV.d_get3 _ rfl rfl enter_33 0 rfl (fun β bs w h hd => qmid_call h ((hd 0 7 rfl).2 (.inr rfl)) HU.out),
                        FreeV.d_extract _ rfl rfl (fun β bs w h hd => by rw [(h.2.1 ((hd 0 7 rfl).1 (by kernel_rfl))).1]; rfl),
                        FreeV.d_extract _ rfl rfl (fun β bs w h hd => by rw [(h.2.1 ((hd 0 7 rfl).1 (by kernel_rfl))).1]; rfl),
                        trivial⟩,
                        fun β => by kernel_rfl, fun β => by kernel_rfl, by kernel_rfl, fun β => by kernel_rfl, by kernel_rfl⟩ (qmid_start HF.out) (fun β => Free.from_ 130 [.pointer (some ⟨w.heap.size, 0, none⟩), .pointer (some ⟨zy, 1, none⟩), .agg #[.int .i64 R.top, .slice R.sa R.sn R.sc, .slice R.pa R.pn R.pc], .slice (some ⟨g5, 0, none⟩) n c5, .int .i64 (q : Int), .pointer (some ⟨g5, q, none⟩), .int .i64 x5, (β 7)] ++ [(129, (β 7)), (138, .int .i64 fa), (139, .int .i64 fe), (15, .int .i64 fa), (16, .int .i64 fe)]) (fun β => by kernel_rfl) ?_
                    intro β w9 h9
                    rw [FreeX.puts_append, Free.puts_from _ _ _ (Nat.le_of_ble_eq_true rfl)]
                    simp only [List.take_succ_cons, List.take_zero, List.drop_succ_cons, List.drop_zero, List.cons_append, List.nil_append, List.length_cons, List.length_nil, Nat.reduceAdd]
                    unfold Free.puts
                    simp only [List.foldl_cons, List.foldl_nil]
                    have k6 := h9.2.2.i6
                    obtain ⟨e7, t4, G4, hM4⟩ := h9.2.1 rfl
                    have HM4 := Lib.hid hM4
                    have hfe := HFe.out
                    clear h9 e7 hM4 HU HF HFe
                    cases f with
                    | true =>
                      have hfe2 : fe = 0 := by simpa using hfe
                      subst hfe2
                      clear hfe
                      go_wp2_with fail
                      first
                        | (go_roundw
                           case rel => exact ⟨q + 1, by simp, by omega, _, _, _, HM4.out⟩
                           case measure => simp [intOf]; omega)
                        | (refine ⟨?_, ?measure⟩
                           (repeat apply Exists.intro)
                           refine ⟨?rel, rfl⟩
                           case rel => exact ⟨q + 1, by go_num, by omega, _, _, _, HM4.out⟩
                           case measure => simp [intOf]; omega)
                    | false =>
                      have hfe2 : ¬ fe = 0 := by simpa using hfe
                      clear hfe
                      go_wp2_with fail
                      first
                        | (go_roundw
                           case rel => exact ⟨q + 1, by simp, by omega, _, _, _, HM4.out⟩
                           case measure => simp [intOf]; omega)
                        | (refine ⟨?_, ?measure⟩
                           (repeat apply Exists.intro)
                           refine ⟨?rel, rfl⟩
                           case rel => exact ⟨q + 1, by go_num, by omega, _, _, _, HM4.out⟩
                           case measure => simp [intOf]; omega)
                  · obtain rfl : q = n := by omega
                    have HE4 := Lib.hid (hM3.more (q' := 0) (by omega))
                    clear hQ hM3
                    go_wp2_with fail
                    go_roundw
                    case rel => exact ⟨i + 1, ids, fl2, (some ⟨g5, 0, none⟩), (some ⟨g6, 0, none⟩), c5, c6, q, by simp, by omega, rfl, rfl, hlo, HLn4.out, _, _, _, _, HE4.out⟩
                    case measure => simp [intOf]; omega
              | false =>
                have hfi := hid.find.2 rfl
                have hcl := HM.out.rm.close (by omega) x5
                rw [hfi] at hcl
                obtain ⟨m2, e1, hr2, hc2⟩ := hcl
                have htd : Told B ids (fl.set q false) := by rw [(HM.out.td.no hx5 hfi).2]; exact HM.out.td
                replace hr2 := hr2.more (g' := (i : Int) + 1) (by omega)
                have HF : Hid (∀ W, Below wr.heap.size wr W → IRd zy b R g5 g6 q x5 false W) := fun W hW => (HM.out.later hW).row.rd (HK.out _ _ _ _ _ (HM.out.later hW).dgo).1 hx5 hf
                have HU : Hid (∀ W, Below wr.heap.size wr W → Calls Tryd.prog 27 #[.pointer (some ⟨w.heap.size, 0, none⟩), .agg #[.int .i64 R.top, .slice R.sa R.sn R.sc, .slice R.pa R.pn R.pc], .int .i64 x5] W fun e w' => ∃ u, e = .returned u ∧ (u = .int .i64 2 ∧ ∃ t2 G2, Dgo w0 b c r w.heap.size [b, c, r] w t2 G G2 w' m2 (ptDo w b) ∧ IRow w0 b c r w.heap.size t2 G2 w' w.heap.size (.slice (some ⟨g5, 0, none⟩) n c5) (.slice (some ⟨g6, 0, none⟩) n c6) ids fl) ∧ IRd zy b R g5 g6 q x5 false w') := fun W hW => by
                  refine (close_E (HM.out.later hW).dgo.sys (by have := HM.out.cnt; omega) (HK.out _ _ _ _ _ (HM.out.later hW).dgo).2.1 x5 hlt5).mono fun e w' hE => ?_
                  obtain ⟨t4, G4, v, rfl, hv, ha⟩ := hE.done (ptDo_quiet w b)
                  replace hv : v = .int .i64 ((closeP x5 P).go m1).1 := hv
                  rw [e1] at hv ha
                  have hD4 := (HM.out.later hW).dgo.aft ha
                  have hR4 := (HM.out.later hW).row.aft ha
                  exact ⟨v, rfl, ⟨hv, t4, G4, hD4, hR4⟩, hR4.rd (HK.out _ _ _ _ _ hD4).1 hx5 hf⟩
                have HT : Hid (RM ((i : Int) + 1) m2 R.top S P 0 A B ∧ Told B ids (fl.set q false) ∧ m2.count ≤ m1.count + 2) := ⟨hr2, htd, hc2⟩
                clear e1 hr2 hc2 htd hfi hid hx5 hf
                go_wp2_with (rw [E1.out])
                refine FreeV.region_puts (S := (QMid wr 7 (IRd zy b R g5 g6 q x5 false) (fun u W => u = .int .i64 2 ∧ ∃ t2 G2, Dgo w0 b c r w.heap.size [b, c, r] w t2 G G2 W m2 (ptDo w b) ∧ IRow w0 b c r w.heap.size t2 G2 W w.heap.size (.slice (some ⟨g5, 0, none⟩) n c5) (.slice (some ⟨g6, 0, none⟩) n c6) ids fl))) (effs := [7])
                  (tab := [⟨2, fun _ => [.pointer (some ⟨zy, 1, none⟩)], fun _ => .agg #[.int .i64 R.top, .slice R.sa R.sn R.sc, .slice R.pa R.pn R.pc], .read⟩,
                    ⟨5, fun _ => [.slice (some ⟨g5, 0, none⟩) n c5, .int .i64 (q : Int)], fun _ => .pointer (some ⟨g5, q, none⟩), .pure⟩,
                    ⟨6, fun _ => [.pointer (some ⟨g5, q, none⟩)], fun _ => .int .i64 x5, .read⟩,
                    ⟨7, fun _ => [.func (.func 27) #[] #[], .pointer (some ⟨w.heap.size, 0, none⟩), .agg #[.int .i64 R.top, .slice R.sa R.sn R.sc, .slice R.pa R.pn R.pc], .int .i64 x5], fun β => (β 7), .get⟩,
                    ⟨8, fun β => [(β 7), .int .i64 0], fun _ => .bool false, .read⟩,
                    ⟨11, fun _ => [.slice (some ⟨g6, 0, none⟩) n c6, .int .i64 (q : Int)], fun _ => .pointer (some ⟨g6, q, none⟩), .pure⟩,
                    ⟨12, fun _ => [.pointer (some ⟨g6, q, none⟩)], fun _ => .bool false, .read⟩,
                    ⟨13, fun _ => [.bool false, .bool false], fun _ => .bool false, .pure⟩])
                  (vs := [([], fun _ => .pointer (some ⟨w.heap.size, 0, none⟩)), ([], fun _ => .pointer (some ⟨zy, 1, none⟩)), ([], fun _ => .agg #[.int .i64 R.top, .slice R.sa R.sn R.sc, .slice R.pa R.pn R.pc]), ([], fun _ => .slice (some ⟨g5, 0, none⟩) n c5), ([], fun _ => .int .i64 (q : Int)), ([], fun _ => .pointer (some ⟨g5, q, none⟩)), ([], fun _ => .int .i64 x5), ([7], fun l => l.headD undef), ([], fun _ => .bool false), ([], fun _ => .slice (some ⟨g6, 0, none⟩) n c6), ([], fun _ => .int .i64 (q : Int)), ([], fun _ => .pointer (some ⟨g6, q, none⟩)), ([], fun _ => .bool false), ([], fun _ => .bool false)])
                  (by kernel_rfl) ⟨by kernel_rfl, ⟨FreeV.d_load _ rfl rfl (fun β bs w h hd => h.2.2.r.loadR),
                    FreeV.d_at _ rfl rfl (fun _ w => at_31 _ _ _ _ hq w),
                    FreeV.d_load _ rfl rfl (fun β bs w h hd => load_3 h.2.2.i5),
                    FreeV.d_get3 _ rfl rfl enter_27 0 rfl (fun β bs w h hd => qmid_call h ((hd 0 7 rfl).2 (.inr rfl)) HU.out),
                    FreeV.d_binr _ rfl rfl (fun β bs xo yo w h hd => eql25_read (h.2.1 ((hd 0 7 rfl).1 (by kernel_rfl))).1 (by decide) xo yo w),
                    FreeV.d_at _ rfl rfl (fun _ w => at_64 _ _ _ _ hq w),
                    FreeV.d_load _ rfl rfl (fun β bs w h hd => load_4 h.2.2.i6),
                    FreeV.d_bin _ rfl rfl (fun _ xo yo w => cmp_neq4 xo yo w (by decide)),
                    trivial⟩,
                    fun β => by kernel_rfl, fun β => by kernel_rfl, by kernel_rfl, fun β => by kernel_rfl, by kernel_rfl⟩ (qmid_start HF.out) (fun β => Free.from_ 105 [.pointer (some ⟨w.heap.size, 0, none⟩), .pointer (some ⟨zy, 1, none⟩), .agg #[.int .i64 R.top, .slice R.sa R.sn R.sc, .slice R.pa R.pn R.pc], .slice (some ⟨g5, 0, none⟩) n c5, .int .i64 (q : Int), .pointer (some ⟨g5, q, none⟩), .int .i64 x5, (β 7), .bool false, .slice (some ⟨g6, 0, none⟩) n c6, .int .i64 (q : Int), .pointer (some ⟨g6, q, none⟩), .bool false, .bool false]) (fun β => by kernel_rfl) ?_
                intro β w8 h8
                rw [Free.puts_from _ _ _ (Nat.le_of_ble_eq_true rfl)]
                simp only [List.take_succ_cons, List.take_zero, List.drop_succ_cons, List.drop_zero, List.cons_append, List.nil_append, List.length_cons, List.length_nil, Nat.reduceAdd]
                obtain ⟨e7, t2, G2, hD2, hR2⟩ := h8.2.1 rfl
                have k6 := h8.2.2.i6
                have hset := hR2.set6 hD2.sys q false
                have hlg := hR2.l6 g6 rfl
                have hD3 : Dgo w0 b c r w.heap.size [b, c, r] w t2 G G2 (w8.setCell ⟨g6, q, none⟩ (.bool false)) m2 (ptDo w b) := hD2.aside ((But.refl _ _).set _ _) hlg (.inr (hR2.o6.lt g6 rfl).1)
                have HN4 : Hid (IMid w0 b c r G w R.top S P A (i + 1) (-300) ids (fl.set q false) (.slice (some ⟨g5, 0, none⟩) n c5) (.slice (some ⟨g6, 0, none⟩) n c6) t2 G2 m2 B (w8.setCell ⟨g6, q, none⟩ (.bool false))) :=
                  ⟨hD3, hset, by have := HT.out.1; push_cast; exact this, HT.out.2.1, by have := HT.out.2.2; have := HM.out.cnt; push_cast; omega, by have := HM.out.le; omega⟩
                have fz6 := hR2.o6.fz
                have qn1 : (q : Int) < (n : Int) := by omega
                have HLn4 := HLen
                have hlo : n ≤ 150 := hn
                clear h8 e7 hD2 hR2 hset hlg hD3 HU HF HT
                generalize hfl2 : fl.set q false = fl2 at *
                go_wp2_with fail
                (try simp only [HPb.out])
                go_loopw [14] (fun kv wk => ∃ q : Nat, kv = .int .i64 (q : Int) ∧ q ≤ n ∧ Hid (∃ t3 G3 m3, IMid w0 b c r G w R.top S P A (i + 1) ((q : Int) - 300) ids fl2 (.slice (some ⟨g5, 0, none⟩) n c5) (.slice (some ⟨g6, 0, none⟩) n c6) t3 G3 m3 B wk)) (fun kv _ => n - (intOf kv).toNat)
                case atStart => exact ⟨0, rfl, Nat.zero_le _, t2, G2, m2, HN4.out⟩
                case round =>
                  obtain ⟨q, rfl, hqn, hQ⟩ := hrel
                  clear HN4
                  obtain ⟨t3, G3, m3, hM3⟩ := hQ.out
                  have hlo2 : (n : Int) ≤ 150 := by omega
                  by_cases hql : q < n
                  · have q1 : (q : Int) < (n : Int) := by omega
                    obtain ⟨x5, hx5⟩ : ∃ x5, (ids)[q]? = some x5 := ⟨_, List.getElem?_eq_getElem (by rw [HLn4.out]; exact hql)⟩
                    obtain ⟨f, hf⟩ : ∃ f, (fl2)[q]? = some f := ⟨_, List.getElem?_eq_getElem (by rw [hM3.td.len, HLn4.out]; exact hql)⟩
                    have hid := hM3.td.ok q x5 f hx5 hf
                    have hlt5 := hM3.id_lt (by omega) hx5
                    obtain ⟨m4, e4, hr4, hc4⟩ := hM3.rm.findv (by omega) x5
                    obtain ⟨fa, fe, e4', hfe⟩ : ∃ fa fe : Int, (findVP x5 P).go m3 = ((fa, fe), m4) ∧ (fe == 0) = f := by
                      cases f with
                      | true =>
                        obtain ⟨kk, bb, e⟩ := hid.find.1 rfl
                        rw [e] at e4
                        exact ⟨bb.2, 0, e4, rfl⟩
                      | false =>
                        rw [hid.find.2 rfl] at e4
                        exact ⟨0, 2, e4, rfl⟩
                    have HF : Hid (∀ W, Below wr.heap.size wr W → IRd zy b R g5 g6 q x5 f W) := fun W hW => (hM3.later hW).row.rd (HK.out _ _ _ _ _ (hM3.later hW).dgo).1 hx5 hf
                    have HU : Hid (∀ W, Below wr.heap.size wr W → Calls Tryd.prog 33 #[.pointer (some ⟨w.heap.size, 0, none⟩), .agg #[.int .i64 R.top, .slice R.sa R.sn R.sc, .slice R.pa R.pn R.pc], .int .i64 x5] W fun e w' => ∃ u, e = .returned u ∧ (u = .tuple #[.int .i64 fa, .int .i64 fe] ∧ ∃ t4 G4, IMid w0 b c r G w R.top S P A (i + 1) (((q + 1 : Nat) : Int) - 300) ids fl2 (.slice (some ⟨g5, 0, none⟩) n c5) (.slice (some ⟨g6, 0, none⟩) n c6) t4 G4 m4 B w') ∧ IRd zy b R g5 g6 q x5 f w') := fun W hW => by
                      refine (findv_E (hM3.later hW).dgo.sys (by have := hM3.cnt; omega) (HK.out _ _ _ _ _ (hM3.later hW).dgo).2.1 x5 hlt5).mono fun e w' hE => ?_
                      obtain ⟨t4, G4, v, rfl, hv, ha⟩ := hE.done (ptDo_quiet w b)
                      replace hv : v = .tuple #[.int .i64 ((findVP x5 P).go m3).1.1, .int .i64 ((findVP x5 P).go m3).1.2] := hv
                      rw [e4'] at hv ha
                      have hM4 := (hM3.later hW).aft (q' := ((q + 1 : Nat) : Int) - 300) ha hr4 (by have := hM3.cnt; push_cast; omega)
                      exact ⟨v, rfl, ⟨hv, t4, G4, hM4⟩, hM4.row.rd (HK.out _ _ _ _ _ hM4.dgo).1 hx5 hf⟩
                    have HFe := Lib.hid hfe
                    clear hQ hM3 hid hlt5 e4 hr4 hc4 e4' hfe hx5 hf
                    go_wp2_with fail
                    refine FreeV.region_puts (S := (QMid wr 7 (IRd zy b R g5 g6 q x5 f) (fun u W => u = .tuple #[.int .i64 fa, .int .i64 fe] ∧ ∃ t4 G4, IMid w0 b c r G w R.top S P A (i + 1) (((q + 1 : Nat) : Int) - 300) ids fl2 (.slice (some ⟨g5, 0, none⟩) n c5) (.slice (some ⟨g6, 0, none⟩) n c6) t4 G4 m4 B W))) (effs := [7])
                      (tab := [⟨2, fun _ => [.pointer (some ⟨zy, 1, none⟩)], fun _ => .agg #[.int .i64 R.top, .slice R.sa R.sn R.sc, .slice R.pa R.pn R.pc], .read⟩,
                        ⟨5, fun _ => [.slice (some ⟨g5, 0, none⟩) n c5, .int .i64 (q : Int)], fun _ => .pointer (some ⟨g5, q, none⟩), .pure⟩,
                        ⟨6, fun _ => [.pointer (some ⟨g5, q, none⟩)], fun _ => .int .i64 x5, .read⟩,
                        ⟨7, fun _ => [.func (.func 33) #[] #[], .pointer (some ⟨w.heap.size, 0, none⟩), .agg #[.int .i64 R.top, .slice R.sa R.sn R.sc, .slice R.pa R.pn R.pc], .int .i64 x5], fun β => (β 7), .get⟩,
                        ⟨9, fun β => [(β 7)], fun _ => .int .i64 fa, .read⟩,
                        ⟨10, fun β => [(β 7)], fun _ => .int .i64 fe, .read⟩])
                      (vs := [([], fun _ => .pointer (some ⟨w.heap.size, 0, none⟩)), ([], fun _ => .pointer (some ⟨zy, 1, none⟩)), ([], fun _ => .agg #[.int .i64 R.top, .slice R.sa R.sn R.sc, .slice R.pa R.pn R.pc]), ([], fun _ => .slice (some ⟨g5, 0, none⟩) n c5), ([], fun _ => .int .i64 (q : Int)), ([], fun _ => .pointer (some ⟨g5, q, none⟩)), ([], fun _ => .int .i64 x5), ([7], fun l => l.headD undef), ([7], fun l => l.headD undef), ([], fun _ => .int .i64 fa), ([], fun _ => .int .i64 fe), ([], fun _ => .int .i64 fa), ([], fun _ => .int .i64 fe)])
                      (by kernel_rfl) ⟨by kernel_rfl, ⟨FreeV.d_load _ rfl rfl (fun β bs w h hd => h.2.2.r.loadR),
                        FreeV.d_at _ rfl rfl (fun _ w => at_31 _ _ _ _ hql w),
                        FreeV.d_load _ rfl rfl (fun β bs w h hd => load_3 h.2.2.i5),
                        FreeV.d_get3 _ rfl rfl enter_33 0 rfl (fun β bs w h hd => qmid_call h ((hd 0 7 rfl).2 (.inr rfl)) HU.out),
                        FreeV.d_extract _ rfl rfl (fun β bs w h hd => by rw [(h.2.1 ((hd 0 7 rfl).1 (by kernel_rfl))).1]; rfl),
                        FreeV.d_extract _ rfl rfl (fun β bs w h hd => by rw [(h.2.1 ((hd 0 7 rfl).1 (by kernel_rfl))).1]; rfl),
                        trivial⟩,
                        fun β => by kernel_rfl, fun β => by kernel_rfl, by kernel_rfl, fun β => by kernel_rfl, by kernel_rfl⟩ (qmid_start HF.out) (fun β => Free.from_ 130 [.pointer (some ⟨w.heap.size, 0, none⟩), .pointer (some ⟨zy, 1, none⟩), .agg #[.int .i64 R.top, .slice R.sa R.sn R.sc, .slice R.pa R.pn R.pc], .slice (some ⟨g5, 0, none⟩) n c5, .int .i64 (q : Int), .pointer (some ⟨g5, q, none⟩), .int .i64 x5, (β 7)] ++ [(129, (β 7)), (138, .int .i64 fa), (139, .int .i64 fe), (15, .int .i64 fa), (16, .int .i64 fe)]) (fun β => by kernel_rfl) ?_
                    intro β w9 h9
                    rw [FreeX.puts_append, Free.puts_from _ _ _ (Nat.le_of_ble_eq_true rfl)]
                    simp only [List.take_succ_cons, List.take_zero, List.drop_succ_cons, List.drop_zero, List.cons_append, List.nil_append, List.length_cons, List.length_nil, Nat.reduceAdd]
                    unfold Free.puts
                    simp only [List.foldl_cons, List.foldl_nil]
                    have k6 := h9.2.2.i6
                    obtain ⟨e7, t4, G4, hM4⟩ := h9.2.1 rfl
                    have HM4 := Lib.hid hM4
                    have hfe := HFe.out
                    clear h9 e7 hM4 HU HF HFe
                    cases f with
                    | true =>
                      have hfe2 : fe = 0 := by simpa using hfe
                      subst hfe2
                      clear hfe
                      go_wp2_with fail
                      first
                        | (go_roundw
                           case rel => exact ⟨q + 1, by simp, by omega, _, _, _, HM4.out⟩
                           case measure => simp [intOf]; omega)
                        | (refine ⟨?_, ?measure⟩
                           (repeat apply Exists.intro)
                           refine ⟨?rel, rfl⟩
                           case rel => exact ⟨q + 1, by go_num, by omega, _, _, _, HM4.out⟩
                           case measure => simp [intOf]; omega)
                    | false =>
                      have hfe2 : ¬ fe = 0 := by simpa using hfe
                      clear hfe
                      go_wp2_with fail
                      first
                        | (go_roundw
                           case rel => exact ⟨q + 1, by simp, by omega, _, _, _, HM4.out⟩
                           case measure => simp [intOf]; omega)
                        | (refine ⟨?_, ?measure⟩
                           (repeat apply Exists.intro)
                           refine ⟨?rel, rfl⟩
                           case rel => exact ⟨q + 1, by go_num, by omega, _, _, _, HM4.out⟩
                           case measure => simp [intOf]; omega)
                  · obtain rfl : q = n := by omega
                    have HE4 := Lib.hid (hM3.more (q' := 0) (by omega))
                    clear hQ hM3
                    go_wp2_with fail
                    go_roundw
                    case rel => exact ⟨i + 1, ids, fl2, (some ⟨g5, 0, none⟩), (some ⟨g6, 0, none⟩), c5, c6, q, by simp, by omega, rfl, rfl, hlo, HLn4.out, _, _, _, _, HE4.out⟩
                    case measure => simp [intOf]; omega
            · by_cases n0 : 0 < n
              · have n1 : (0 : Int) < (n : Int) := by omega
                have xn0 : ¬ 0 ≤ x.n := fun e => hsk ⟨n0, e⟩
                clear hsk
                have HN4 : Hid (IMid w0 b c r G w R.top S P A (i + 1) (-300) ids fl (.slice a5 n c5) (.slice a6 n c6) t1 G1 m1 B wr) :=
                  ⟨HM.out.dgo, HM.out.row, HM.out.rm.more (by omega), HM.out.td, by have := HM.out.cnt; push_cast; omega, by have := HM.out.le; omega⟩
                have HLn4 := HLen
                have hlo : n ≤ 150 := hn
                go_wp2_with fail
                go_loopw [14] (fun kv wk => ∃ q : Nat, kv = .int .i64 (q : Int) ∧ q ≤ n ∧ Hid (∃ t3 G3 m3, IMid w0 b c r G w R.top S P A (i + 1) ((q : Int) - 300) ids fl (.slice a5 n c5) (.slice a6 n c6) t3 G3 m3 B wk)) (fun kv _ => n - (intOf kv).toNat)
                case atStart => exact ⟨0, rfl, Nat.zero_le _, t1, G1, m1, HN4.out⟩
                case round =>
                  obtain ⟨q, rfl, hqn, hQ⟩ := hrel
                  clear HN4
                  obtain ⟨t3, G3, m3, hM3⟩ := hQ.out
                  have hlo2 : (n : Int) ≤ 150 := by omega
                  by_cases hql : q < n
                  · have q1 : (q : Int) < (n : Int) := by omega
                    obtain ⟨x5, hx5⟩ : ∃ x5, (ids)[q]? = some x5 := ⟨_, List.getElem?_eq_getElem (by rw [HLn4.out]; exact hql)⟩
                    obtain ⟨f, hf⟩ : ∃ f, (fl)[q]? = some f := ⟨_, List.getElem?_eq_getElem (by rw [hM3.td.len, HLn4.out]; exact hql)⟩
                    obtain ⟨g5, g6, e5, e6⟩ := hM3.row.ptrs hx5 hf
                    subst e5
                    subst e6
                    have hid := hM3.td.ok q x5 f hx5 hf
                    have hlt5 := hM3.id_lt (by omega) hx5
                    obtain ⟨m4, e4, hr4, hc4⟩ := hM3.rm.findv (by omega) x5
                    obtain ⟨fa, fe, e4', hfe⟩ : ∃ fa fe : Int, (findVP x5 P).go m3 = ((fa, fe), m4) ∧ (fe == 0) = f := by
                      cases f with
                      | true =>
                        obtain ⟨kk, bb, e⟩ := hid.find.1 rfl
                        rw [e] at e4
                        exact ⟨bb.2, 0, e4, rfl⟩
                      | false =>
                        rw [hid.find.2 rfl] at e4
                        exact ⟨0, 2, e4, rfl⟩
                    have HF : Hid (∀ W, Below wr.heap.size wr W → IRd zy b R g5 g6 q x5 f W) := fun W hW => (hM3.later hW).row.rd (HK.out _ _ _ _ _ (hM3.later hW).dgo).1 hx5 hf
                    have HU : Hid (∀ W, Below wr.heap.size wr W → Calls Tryd.prog 33 #[.pointer (some ⟨w.heap.size, 0, none⟩), .agg #[.int .i64 R.top, .slice R.sa R.sn R.sc, .slice R.pa R.pn R.pc], .int .i64 x5] W fun e w' => ∃ u, e = .returned u ∧ (u = .tuple #[.int .i64 fa, .int .i64 fe] ∧ ∃ t4 G4, IMid w0 b c r G w R.top S P A (i + 1) (((q + 1 : Nat) : Int) - 300) ids fl (.slice (some ⟨g5, 0, none⟩) n c5) (.slice (some ⟨g6, 0, none⟩) n c6) t4 G4 m4 B w') ∧ IRd zy b R g5 g6 q x5 f w') := fun W hW => by
                      refine (findv_E (hM3.later hW).dgo.sys (by have := hM3.cnt; omega) (HK.out _ _ _ _ _ (hM3.later hW).dgo).2.1 x5 hlt5).mono fun e w' hE => ?_
                      obtain ⟨t4, G4, v, rfl, hv, ha⟩ := hE.done (ptDo_quiet w b)
                      replace hv : v = .tuple #[.int .i64 ((findVP x5 P).go m3).1.1, .int .i64 ((findVP x5 P).go m3).1.2] := hv
                      rw [e4'] at hv ha
                      have hM4 := (hM3.later hW).aft (q' := ((q + 1 : Nat) : Int) - 300) ha hr4 (by have := hM3.cnt; push_cast; omega)
                      exact ⟨v, rfl, ⟨hv, t4, G4, hM4⟩, hM4.row.rd (HK.out _ _ _ _ _ hM4.dgo).1 hx5 hf⟩
                    have HFe := Lib.hid hfe
                    clear hQ hM3 hid hlt5 e4 hr4 hc4 e4' hfe hx5 hf
                    go_wp2_with fail
                    refine FreeV.region_puts (S := (QMid wr 7 (IRd zy b R g5 g6 q x5 f) (fun u W => u = .tuple #[.int .i64 fa, .int .i64 fe] ∧ ∃ t4 G4, IMid w0 b c r G w R.top S P A (i + 1) (((q + 1 : Nat) : Int) - 300) ids fl (.slice (some ⟨g5, 0, none⟩) n c5) (.slice (some ⟨g6, 0, none⟩) n c6) t4 G4 m4 B W))) (effs := [7])
                      (tab := [⟨2, fun _ => [.pointer (some ⟨zy, 1, none⟩)], fun _ => .agg #[.int .i64 R.top, .slice R.sa R.sn R.sc, .slice R.pa R.pn R.pc], .read⟩,
                        ⟨5, fun _ => [.slice (some ⟨g5, 0, none⟩) n c5, .int .i64 (q : Int)], fun _ => .pointer (some ⟨g5, q, none⟩), .pure⟩,
                        ⟨6, fun _ => [.pointer (some ⟨g5, q, none⟩)], fun _ => .int .i64 x5, .read⟩,
                        ⟨7, fun _ => [.func (.func 33) #[] #[], .pointer (some ⟨w.heap.size, 0, none⟩), .agg #[.int .i64 R.top, .slice R.sa R.sn R.sc, .slice R.pa R.pn R.pc], .int .i64 x5], fun β => (β 7), .get⟩,
                        ⟨9, fun β => [(β 7)], fun _ => .int .i64 fa, .read⟩,
                        ⟨10, fun β => [(β 7)], fun _ => .int .i64 fe, .read⟩])
                      (vs := [([], fun _ => .pointer (some ⟨w.heap.size, 0, none⟩)), ([], fun _ => .pointer (some ⟨zy, 1, none⟩)), ([], fun _ => .agg #[.int .i64 R.top, .slice R.sa R.sn R.sc, .slice R.pa R.pn R.pc]), ([], fun _ => .slice (some ⟨g5, 0, none⟩) n c5), ([], fun _ => .int .i64 (q : Int)), ([], fun _ => .pointer (some ⟨g5, q, none⟩)), ([], fun _ => .int .i64 x5), ([7], fun l => l.headD undef), ([7], fun l => l.headD undef), ([], fun _ => .int .i64 fa), ([], fun _ => .int .i64 fe), ([], fun _ => .int .i64 fa), ([], fun _ => .int .i64 fe)])
                      (by kernel_rfl) ⟨by kernel_rfl, ⟨FreeV.d_load _ rfl rfl (fun β bs w h hd => h.2.2.r.loadR),
                        FreeV.d_at _ rfl rfl (fun _ w => at_31 _ _ _ _ hql w),
                        FreeV.d_load _ rfl rfl (fun β bs w h hd => load_3 h.2.2.i5),
                        FreeV.d_get3 _ rfl rfl enter_33 0 rfl (fun β bs w h hd => qmid_call h ((hd 0 7 rfl).2 (.inr rfl)) HU.out),
                        FreeV.d_extract _ rfl rfl (fun β bs w h hd => by rw [(h.2.1 ((hd 0 7 rfl).1 (by kernel_rfl))).1]; rfl),
                        FreeV.d_extract _ rfl rfl (fun β bs w h hd => by rw [(h.2.1 ((hd 0 7 rfl).1 (by kernel_rfl))).1]; rfl),
                        trivial⟩,
                        fun β => by kernel_rfl, fun β => by kernel_rfl, by kernel_rfl, fun β => by kernel_rfl, by kernel_rfl⟩ (qmid_start HF.out) (fun β => Free.from_ 130 [.pointer (some ⟨w.heap.size, 0, none⟩), .pointer (some ⟨zy, 1, none⟩), .agg #[.int .i64 R.top, .slice R.sa R.sn R.sc, .slice R.pa R.pn R.pc], .slice (some ⟨g5, 0, none⟩) n c5, .int .i64 (q : Int), .pointer (some ⟨g5, q, none⟩), .int .i64 x5, (β 7)] ++ [(129, (β 7)), (138, .int .i64 fa), (139, .int .i64 fe), (15, .int .i64 fa), (16, .int .i64 fe)]) (fun β => by kernel_rfl) ?_
                    intro β w9 h9
                    rw [FreeX.puts_append, Free.puts_from _ _ _ (Nat.le_of_ble_eq_true rfl)]
                    simp only [List.take_succ_cons, List.take_zero, List.drop_succ_cons, List.drop_zero, List.cons_append, List.nil_append, List.length_cons, List.length_nil, Nat.reduceAdd]
                    unfold Free.puts
                    simp only [List.foldl_cons, List.foldl_nil]
                    have k6 := h9.2.2.i6
                    obtain ⟨e7, t4, G4, hM4⟩ := h9.2.1 rfl
                    have HM4 := Lib.hid hM4
                    have hfe := HFe.out
                    clear h9 e7 hM4 HU HF HFe
                    cases f with
                    | true =>
                      have hfe2 : fe = 0 := by simpa using hfe
                      subst hfe2
                      clear hfe
                      go_wp2_with fail
                      first
                        | (go_roundw
                           case rel => exact ⟨q + 1, by simp, by omega, _, _, _, HM4.out⟩
                           case measure => simp [intOf]; omega)
                        | (refine ⟨?_, ?measure⟩
                           (repeat apply Exists.intro)
                           refine ⟨?rel, rfl⟩
                           case rel => exact ⟨q + 1, by go_num, by omega, _, _, _, HM4.out⟩
                           case measure => simp [intOf]; omega)
                    | false =>
                      have hfe2 : ¬ fe = 0 := by simpa using hfe
                      clear hfe
                      go_wp2_with fail
                      first
                        | (go_roundw
                           case rel => exact ⟨q + 1, by simp, by omega, _, _, _, HM4.out⟩
                           case measure => simp [intOf]; omega)
                        | (refine ⟨?_, ?measure⟩
                           (repeat apply Exists.intro)
                           refine ⟨?rel, rfl⟩
                           case rel => exact ⟨q + 1, by go_num, by omega, _, _, _, HM4.out⟩
                           case measure => simp [intOf]; omega)
                  · obtain rfl : q = n := by omega
                    have HE4 := Lib.hid (hM3.more (q' := 0) (by omega))
                    clear hQ hM3
                    go_wp2_with fail
                    go_roundw
                    case rel => exact ⟨i + 1, ids, fl, a5, a6, c5, c6, q, by simp, by omega, rfl, rfl, hlo, HLn4.out, _, _, _, _, HE4.out⟩
                    case measure => simp [intOf]; omega
              · have n1 : ¬ (0 : Int) < (n : Int) := by omega
                clear hsk
                have HN4 : Hid (IMid w0 b c r G w R.top S P A (i + 1) (-300) ids fl (.slice a5 n c5) (.slice a6 n c6) t1 G1 m1 B wr) :=
                  ⟨HM.out.dgo, HM.out.row, HM.out.rm.more (by omega), HM.out.td, by have := HM.out.cnt; push_cast; omega, by have := HM.out.le; omega⟩
                have HLn4 := HLen
                have hlo : n ≤ 150 := hn
                go_wp2_with fail
                go_loopw [14] (fun kv wk => ∃ q : Nat, kv = .int .i64 (q : Int) ∧ q ≤ n ∧ Hid (∃ t3 G3 m3, IMid w0 b c r G w R.top S P A (i + 1) ((q : Int) - 300) ids fl (.slice a5 n c5) (.slice a6 n c6) t3 G3 m3 B wk)) (fun kv _ => n - (intOf kv).toNat)
                case atStart => exact ⟨0, rfl, Nat.zero_le _, t1, G1, m1, HN4.out⟩
                case round =>
                  obtain ⟨q, rfl, hqn, hQ⟩ := hrel
                  clear HN4
                  obtain ⟨t3, G3, m3, hM3⟩ := hQ.out
                  have hlo2 : (n : Int) ≤ 150 := by omega
                  by_cases hql : q < n
                  · exfalso; omega
                  · obtain rfl : q = n := by omega
                    have HE4 := Lib.hid (hM3.more (q' := 0) (by omega))
                    clear hQ hM3
                    go_wp2_with fail
                    go_roundw
                    case rel => exact ⟨i + 1, ids, fl, a5, a6, c5, c6, q, by simp, by omega, rfl, rfl, hlo, HLn4.out, _, _, _, _, HE4.out⟩
                    case measure => simp [intOf]; omega
    · obtain rfl : i = L := by omega
      have HB : Hid (ButN [b, c, r] w.heap.size w wr) := hM.dgo.but
      clear hM hR hlen hrg1 hac HM HLen HRg
      go_wp2
      go_ret
      exact ⟨_, rfl, rfl, HB.out⟩
end Go.Proofs.YtgjkkbgdkdipgaaDoor
