/- What a machine's calls answer and make of it: New, Step, Ended, Out, Steps, Noted. Conditions: its function does what its port lets it do; at most 1000000 asks. -/
import Derived.Test.YteiikkkcjpfapaaDoorStE
namespace Go.Proofs.YteiikkkcjpfapaaDoor
open Go.RowKit Go.Op
set_option maxRecDepth 100000

/-- A machine: its port, its function, whether it has ended, what it answered. -/
structure Mac (w0 : World) (b c r : Nat) (N : Int) (G : List (Nat × List Sw)) (xb : Nat) (t : Value) (w : World) (m : M) (s : Pt) (f : Value) (fin : Bool) (out : Value) : Prop where
  sys : Sys w0 b c r N G xb 1 t w m s
  ok : fin = false → s.Ok
  e0 : s.ext 0 = some f
  e8 : s.ext 8 = some (.bool fin)
  e9 : s.ext 9 = some out
section
variable {w0 : World} {b c r : Nat} {N : Int} {G : List (Nat × List Sw)} {xb : Nat} {t : Value} {w : World} {m : M} {s : Pt} {f : Value} {fin : Bool} {out : Value}
theorem Mac.c0 (h : Mac w0 b c r N G xb t w m s f fin out) : w.cell? ⟨xb, 0, none⟩ = some f := (h.sys.pt.ext 0 (by omega)).trans h.e0
theorem Mac.c8 (h : Mac w0 b c r N G xb t w m s f fin out) : w.cell? ⟨xb, 8, none⟩ = some (.bool fin) := (h.sys.pt.ext 8 (by omega)).trans h.e8
theorem Mac.c9 (h : Mac w0 b c r N G xb t w m s f fin out) : w.cell? ⟨xb, 9, none⟩ = some out := (h.sys.pt.ext 9 (by omega)).trans h.e9
theorem Mac.less {N' : Int} (h : Mac w0 b c r N G xb t w m s f fin out) (hN : N ≤ N') : Mac w0 b c r N' G xb t w m s f fin out := ⟨h.sys.less hN, h.ok, h.e0, h.e8, h.e9⟩
theorem Mac.later {w' : World} (h : Mac w0 b c r N G xb t w m s f fin out) (hb : Below w.heap.size w w') : Mac w0 b c r N G xb t w' m s f fin out := ⟨h.sys.later hb, h.ok, h.e0, h.e8, h.e9⟩
theorem ended_any (h : Mac w0 b c r N G xb t w m s f fin out) : Calls Tryd.prog 24 #[.pointer (some ⟨xb, 0, none⟩)] w fun e w' => e = .returned (.bool fin) ∧ w = w' := by
  have c8 := h.c8
  clear h
  go_enter Tryd.func24, Tryd.ntmps24
  go_wp2
  go_ret
  exact ⟨rfl, rfl⟩
theorem out_any (h : Mac w0 b c r N G xb t w m s f fin out) : Calls Tryd.prog 28 #[.pointer (some ⟨xb, 0, none⟩)] w fun e w' => e = .returned out ∧ w = w' := by
  have c9 := h.c9
  clear h
  go_enter Tryd.func28, Tryd.ntmps28
  go_wp2
  go_ret
  exact ⟨rfl, rfl⟩
/-- A part of what is told. -/
def nth (k : Nat) (v : Value) : Value := match v with
  | .tuple xs => xs.getD k undef
  | _ => undef
theorem nth_0 (a b : Value) : nth 0 (.tuple #[a, b]) = a := rfl
theorem nth_1 (a b : Value) : nth 1 (.tuple #[a, b]) = b := rfl
theorem load_35 {w : World} {p : Addr} {fk : FuncId} {caps : Array Value} (h : w.cell? p = some (.func (.func fk) #[] caps)) : (Instr.loadAt 40 (.pointer (some p))).run Tryd.prog w = .ok (.func (.func fk) #[] caps) w := by go_simp
theorem enter_42 (xs : Array Value) (w : World) : (callFunc 56 xs).run Tryd.prog w = .ok (.enter 56 xs) w := by kernel_rfl

theorem st_nil (a : Addr) (m : Mode) (w : World) : (store a .nilFunc m).run Tryd.prog w = stored Tryd.prog w a .nilFunc m := run_store _ w a _ m rfl
/-- What a step comes to: the machine, its row, memory, its port; o is what the function answered, if it ended. -/
def Outc (s : Pt) (w0 : World) (b c r : Nat) (N : Int) (G : List (Nat × List Sw)) (xb po : Nat) (t : Value) (w : World) (Φ : Option Value → M → Pt → List (Nat × List Sw) → Prop) (o : Option Value) (w' : World) : Prop :=
  ∃ t' m' s' G', Sys w0 b c r N G' xb po t' w' m' s' ∧ Row2 w t t' ∧ s'.Ok ∧ s'.ext = s.ext ∧ Grow w G G' ∧ Φ o m' s' G'
def SMid (R : Option Value → World → Prop) (b c r xb : Nat) (t : Value) (w : World) (bs : List Bool) (β : Nat → Value) (W : World) : Prop :=
  (bs[0]? = some false → Below w.heap.size w W) ∧ (bs[0]? = some true → Run2 R (.returned (β 7)) W ∧ But5 b c r xb t w W)
end
section
variable {R : Option Value → World → Prop} {b c r xb : Nat} {t : Value} {w : World} {bs : List Bool} {β : Nat → Value} {W : World}
theorem smid_start {β : Nat → Value} : SMid R b c r xb t w [false] β w.drew := ⟨fun _ => (Below.refl _ _).drew, fun e => (by cases e)⟩
theorem smid_nth (h : SMid R b c r xb t w bs β W) (h0 : bs[0]? = some true) {k : Nat} (hk : k < 2) : (Instr.extract (β 7) k).run Tryd.prog W = .ok (nth k (β 7)) W := by
  rcases (h.2 h0).1 with ⟨ty, x, _, e, _⟩ | ⟨_, e, _⟩
  all_goals
    have e7 := Ending.returned.inj e
    rw [e7]
    match k, hk with
    | 0, _ => rfl
    | 1, _ => rfl
theorem smid_run {fk : FuncId} {caps : Array Value} (hr : ∀ W, Below w.heap.size w W → Calls Tryd.prog 56 #[.pointer (some ⟨xb, 1, none⟩), .func (.func fk) #[] caps] W fun e w' => Run2 R e w' ∧ But5 b c r xb t W w')
    (h : SMid R b c r xb t w bs β W) (h0 : bs[0]? = some false) : Calls Tryd.prog 56 #[.pointer (some ⟨xb, 1, none⟩), .func (.func fk) #[] caps] W fun e w' => ∃ u, e = .returned u ∧ SMid R b c r xb t w (bs.set 0 true) (FreeV.upd β 7 u) w' := by
  have hb := h.1 h0
  refine (hr W hb).mono ?_
  rintro e w' ⟨h1, h2⟩
  have key : ∀ u, e = .returned u → SMid R b c r xb t w (bs.set 0 true) (FreeV.upd β 7 u) w' := fun u eu => by
    refine ⟨fun e2 => (by rw [set_at h0] at e2; cases e2), fun _ => ⟨?_, (But5.of hb).trans h2⟩⟩
    simp only [FreeV.upd, if_true]
    exact eu ▸ h1
  rcases h1 with ⟨ty, x, _, e1, _⟩ | ⟨_, e1, _⟩
  · exact ⟨_, e1, key _ e1⟩
  · exact ⟨_, e1, key _ e1⟩
end
section
variable {w0 : World} {b c r : Nat} {N : Int} {G : List (Nat × List Sw)} {xb : Nat} {t : Value} {w : World} {m : M} {s : Pt} {f : Value} {fin : Bool} {out : Value}
theorem step_done (h : Mac w0 b c r N G xb t w m s f true out) : Calls Tryd.prog 23 #[.pointer (some ⟨xb, 0, none⟩)] w fun e w' => e = .returned (.bool true) ∧ w = w' := by
  have c8 := h.c8
  clear h
  go_enter Tryd.func23, Tryd.ntmps23
  go_wp2
  go_ret
  exact ⟨rfl, rfl⟩
/-- A port at a step's beginning. -/
def Pt.fresh (s : Pt) : Pt := { s with place := 0, spent := false, halted := false }
/-- Behind a step. -/
def Stepped (w0 : World) (b c r : Nat) (N : Int) (G : List (Nat × List Sw)) (xb : Nat) (t : Value) (w : World) (f out : Value) (Φ : Option Value → M → Pt → List (Nat × List Sw) → Prop) (e : Ending) (w' : World) : Prop :=
  ∃ t' m' s' G', ((∃ v, e = .returned (.bool true) ∧ ∃ s1, Φ (some v) m' s1 G' ∧ s'.place = s1.place ∧ s'.noted = s1.noted ∧ Mac w0 b c r N G' xb t' w' m' s' .nilFunc true v) ∨ (e = .returned (.bool false) ∧ Φ none m' s' G' ∧ Mac w0 b c r N G' xb t' w' m' s' f false out)) ∧ But5 b c r xb t w w' ∧ Row2 w t t' ∧ Grow w G G'

theorem step_run {fk : FuncId} {caps : Array Value} (h : Mac w0 b c r N G xb t w m s (.func (.func fk) #[] caps) false out) (Φ : Option Value → M → Pt → List (Nat × List Sw) → Prop) (he : ∀ zs w, (callFunc fk zs).run Tryd.prog w = .ok (.enter fk zs) w) (N' : Int)
    (hf : ∀ w1, Sys w0 b c r N G xb 1 t w1 m s.fresh → But xb w w1 → Calls Tryd.prog fk (#[.pointer (some ⟨xb, 1, none⟩)] ++ caps) w1 fun e w' => Ran xb 1 (Outc s w0 b c r N' G xb 1 t w1 Φ) e w' ∧ But5 b c r xb t w1 w') :
    Calls Tryd.prog 23 #[.pointer (some ⟨xb, 0, none⟩)] w fun e w' => Stepped w0 b c r N' G xb t w (.func (.func fk) #[] caps) out Φ e w' := by
  have mixed : Tryd.prog.follows .mixedOrders = true := by kernel_rfl
  have c8 := h.c8
  have hbg := begin_any h.sys.pt
  have HM := Lib.hid h
  clear h
  go_enter Tryd.func23, Tryd.ntmps23
  go_wp2_with fail
  refine hbg.mono ?_
  rintro e w1 ⟨rfl, p1, b1⟩
  have S1 := HM.out.sys.port p1 b1
  have c0 : w1.cell? ⟨xb, 0, none⟩ = some (.func (.func fk) #[] caps) := (p1.ext 0 (by omega)).trans HM.out.e0
  have HL := Lib.hid p1.lt
  have HR : Hid (∀ W, Below w1.heap.size w1 W → Calls Tryd.prog 56 #[.pointer (some ⟨xb, 1, none⟩), .func (.func fk) #[] caps] W fun e w' => Run2 (Outc s w0 b c r N' G xb 1 t w1 Φ) e w' ∧ But5 b c r xb t W w') := by
    intro W hW
    have hS := S1.later hW
    have o := hS.has.at_.own
    refine run_any W b c r xb 1 t fk caps _ ⟨o.lb, o.lc, o.lr, hS.pt.lt, fun k e => (World.ownsRow.lt hS.pt.own k e).2⟩ he fun w2 h2 => ?_
    refine (hf w2 (hS.later h2) ((b1.trans (But.of hW)).trans (But.of h2))).mono ?_
    rintro e w' ⟨h3, h4⟩
    refine ⟨?_, h4⟩
    have hz := Nat.le_trans hW.size h2.size
    have key : ∀ o w', Outc s w0 b c r N' G xb 1 t w2 Φ o w' → Outc s w0 b c r N' G xb 1 t w1 Φ o w' := by
      rintro o w' ⟨t', m', s', G', q1, q2, q3, q4, q5, q6⟩
      exact ⟨t', m', s', G', q1, q2.from hz, q3, q4, q5.from hz, q6⟩
    rcases h3 with ⟨ty, x, e1, q, hc⟩ | ⟨e1, q⟩
    · exact .inl ⟨ty, x, e1, key _ _ q, hc⟩
    · exact .inr ⟨e1, key _ _ q⟩
  have HS1 := Lib.hid S1
  have HB1 := Lib.hid b1
  clear hbg p1 b1 S1 hf
  go_wp2_with fail
  refine FreeV.region_puts (S := SMid (Outc s w0 b c r N' G xb 1 t w1 Φ) b c r xb t w1) (effs := [7])
    (tab := [⟨1, fun _ => [.pointer (some ⟨xb, 0, none⟩)], fun _ => .pointer (some ⟨xb, 0, none⟩), .pure⟩,
      ⟨4, fun _ => [.pointer (some ⟨xb, 0, none⟩)], fun _ => .pointer (some ⟨xb, 0, none⟩), .pure⟩,
      ⟨6, fun _ => [.pointer (some ⟨xb, 0, none⟩)], fun _ => (.func (.func fk) #[] caps), .read⟩,
      ⟨7, fun _ => [.func (.func 56) #[] #[], .pointer (some ⟨xb, 1, none⟩), (.func (.func fk) #[] caps)], fun β => (β 7), .get⟩,
      ⟨9, fun β => [(β 7)], fun β => (nth 0 (β 7)), .read⟩,
      ⟨10, fun β => [(β 7)], fun β => (nth 1 (β 7)), .read⟩])
    (vs := [([], fun _ => .pointer (some ⟨xb, 0, none⟩)), ([], fun _ => .pointer (some ⟨xb, 0, none⟩)), ([], fun _ => .pointer (some ⟨xb, 1, none⟩)), ([], fun _ => .pointer (some ⟨xb, 0, none⟩)), ([], fun _ => .pointer (some ⟨xb, 0, none⟩)), ([], fun _ => .pointer (some ⟨xb, 0, none⟩)), ([], fun _ => (.func (.func fk) #[] caps)), ([7], fun l => l.headD undef), ([7], fun l => l.headD undef), ([7], fun l => nth 0 (l.headD undef)), ([7], fun l => nth 1 (l.headD undef)), ([7], fun l => nth 0 (l.headD undef)), ([7], fun l => nth 1 (l.headD undef))])
    (by kernel_rfl) ⟨by kernel_rfl, ⟨FreeV.d_nil _ rfl rfl,
      FreeV.d_nil _ rfl rfl,
      FreeV.d_load _ rfl rfl (fun β bs w h hd => load_35 (((h.1 ((hd 0 7 rfl).2 (.inl (by kernel_rfl)))).cell HL.out).trans c0)),
      FreeV.d_get2 _ rfl rfl enter_42 0 rfl (fun β bs w h hd => smid_run HR.out h ((hd 0 7 rfl).2 (.inr rfl))),
      FreeV.d_extract _ rfl rfl (fun β bs w h hd => smid_nth h ((hd 0 7 rfl).1 (by kernel_rfl)) (by decide)),
      FreeV.d_extract _ rfl rfl (fun β bs w h hd => smid_nth h ((hd 0 7 rfl).1 (by kernel_rfl)) (by decide)),
      trivial⟩,
      fun β => by kernel_rfl, fun β => by kernel_rfl, by kernel_rfl, fun β => by kernel_rfl, by kernel_rfl⟩ smid_start (fun β => Free.from_ 14 [.pointer (some ⟨xb, 0, none⟩), .pointer (some ⟨xb, 0, none⟩), .pointer (some ⟨xb, 1, none⟩), .pointer (some ⟨xb, 0, none⟩), .pointer (some ⟨xb, 0, none⟩), .pointer (some ⟨xb, 0, none⟩), (.func (.func fk) #[] caps), (β 7)] ++ [(13, (β 7)), (22, (nth 0 (β 7))), (23, (nth 1 (β 7))), (3, (nth 0 (β 7))), (4, (nth 1 (β 7)))]) (fun β => by kernel_rfl) ?_
  intro β w4 h4
  obtain ⟨h5, h6⟩ := h4.2 rfl
  clear h4
  rw [FreeX.puts_append, Free.puts_from _ _ _ (Nat.le_of_ble_eq_true rfl)]
  simp only [List.take_succ_cons, List.take_zero, List.drop_succ_cons, List.drop_zero, List.cons_append, List.nil_append, List.length_cons, List.length_nil, Nat.reduceAdd]
  unfold Free.puts
  simp only [List.foldl_cons, List.foldl_nil]
  rcases h5 with ⟨ty, x, w5, e, ⟨t', m', s', G', S5, r5, ok5, x5, g5, φ⟩, b5⟩ | ⟨w5, e, ⟨t', m', s', G', S5, r5, ok5, x5, g5, φ⟩, b5⟩
  · have e7 := Ending.returned.inj e
    simp only [e7, nth_0, nth_1]
    have S4 := S5.later b5
    have P4 := S4.pt
    have d0 : s'.ext 0 = some (.func (.func fk) #[] caps) := by rw [x5]; exact HM.out.e0
    have d8 : s'.ext 8 = some (.bool false) := by rw [x5]; exact HM.out.e8
    have d9 : s'.ext 9 = some out := by rw [x5]; exact HM.out.e9
    have k0 := (P4.ext 0 (by omega)).trans d0
    have k8 := (P4.ext 8 (by omega)).trans d8
    have k9 := (P4.ext 9 (by omega)).trans d9
    have k3 := P4.cells.c2
    have fz := P4.fz
    have p8 := P4.put (.bool true) d8 (by omega)
    have p9 := p8.put (i := 9) (x := out) (.iface ty x) d9 (by omega)
    have p0 := p9.put (i := 0) (x := .func (.func fk) #[] caps) .nilFunc d0 (by omega)
    have HP := Lib.hid p0.forget
    have HB := Lib.hid (((((But2.of (Below.refl _ _) : But2 xb t' w4 w4).set 8 (.bool true)).set 9 (.iface ty x)).set 0 .nilFunc).set 3 (.slice none 0 0))
    have HS := Lib.hid S4
    have H6 := Lib.hid h6
    have HR5 := Lib.hid r5
    have HG5 := Lib.hid g5
    have HΦ := Lib.hid φ
    clear HR S5 S4 P4 b5 h6 r5 g5 φ p8 p9 p0 d0 d8 d9 c0 c8 e e7 x5
    simp only at HP
    have st := st_nil
    go_wp2
    go_ret
    have H9 := HS.out.keep HP.out HB.out (fun k e => (by cases e))
    simp only [Nat.reduceAdd] at H9
    refine ⟨.slice none 0 0, m', _, G', .inl ⟨_, rfl, s', HΦ.out, ?_, ?_, H9, fun e => (by cases e), ?_, ?_, ?_⟩, ((But5.of1 HB1.out).trans H6.out).next (HR5.out.from HB1.out.size) (But5.of2 HB.out), fun k e => (by cases e), HG5.out.from HB1.out.size⟩
    all_goals rfl
  · have e7 := Ending.returned.inj e
    simp only [e7, nth_0, nth_1]
    have HS := Lib.hid (S5.later b5)
    have H6 := Lib.hid h6
    have HR5 := Lib.hid r5
    have HG5 := Lib.hid g5
    have HΦ := Lib.hid φ
    have HX := Lib.hid x5
    clear HR S5 b5 h6 r5 g5 φ c0 c8 e e7 x5
    go_wp2
    go_ret
    exact ⟨t', m', s', G', .inr ⟨rfl, HΦ.out, HS.out, fun _ => ok5, by rw [HX.out]; exact HM.out.e0, by rw [HX.out]; exact HM.out.e8, by rw [HX.out]; exact HM.out.e9⟩, (But5.of1 HB1.out).trans H6.out, HR5.out.from HB1.out.size, HG5.out.from HB1.out.size⟩
end
end Go.Proofs.YteiikkkcjpfapaaDoor
