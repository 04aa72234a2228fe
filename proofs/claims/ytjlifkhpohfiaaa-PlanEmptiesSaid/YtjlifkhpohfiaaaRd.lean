/- What the law's row makes, ahead of its walk: facts on views that are being made. No condition. -/
import Derived.Test.YtjlifkhpohfiaaaSg
import Derived.Test.YtjlifkhpohfiaaaEWalkQ
namespace Go.Proofs.Ytjlifkhpohfiaaa
open Go.RowKit Go.Op
set_option maxRecDepth 100000

/-- A row, an append, a store, one behind the other. -/
structure LA (w2 : World) (xs : List Value) (jr ja : Nat) (P7 : Value → World → Prop) (P9 : World → Prop) (bs : List Bool) (β : Nat → Value) (W : World) : Prop where
  z1 : bs[0]? = some false → bs[1]? = some false
  z2 : bs[1]? = some false → bs[2]? = some false
  bel : bs[1]? = some false → Below w2.heap.size w2 W
  two : bs[0]? = some true → bs[1]? = some false → ∃ g, β jr = .slice (some ⟨g, 0, none⟩) 1 1 ∧ W.rangeAt g 0 xs
  three : bs[1]? = some true → bs[2]? = some false → P7 (β ja) W
  four : bs[2]? = some true → P9 W
section
variable {w2 : World} {xs : List Value} {jr ja : Nat} {P7 : Value → World → Prop} {P9 : World → Prop} {bs : List Bool} {β : Nat → Value} {W : World}
theorem la_start : LA w2 xs jr ja P7 P9 [false, false, false] β w2.drew := ⟨fun _ => rfl, fun _ => rfl, fun _ => (Below.refl _ _).drew, fun e => (by cases e), fun e => (by cases e), fun e => (by cases e)⟩
theorem la_row (h : LA w2 xs jr ja P7 P9 bs β W) (b0 : bs[0]? = some false) (T e : TypeId) (x : Value) (hrun : (Instr.buildSlice T 1 #[(0, x)]).run Try.prog W = .ok (.slice (some ⟨W.heap.size, 0, none⟩) 1 1) (W.alloc (.cells xs.toArray e))) :
    ∃ u w', (Instr.buildSlice T 1 #[(0, x)]).run Try.prog W = .ok u w' ∧ LA w2 xs jr ja P7 P9 (bs.set 0 true) (FreeV.upd β jr u) w' := by
  have b1 := h.z1 b0
  have b2 := h.z2 b1
  have hb := h.bel b1
  refine ⟨_, _, hrun, fun e => (by rw [set_at b0] at e; cases e), fun _ => by rw [List.getElem?_set_ne (by decide)]; exact b2, fun _ => hb.alloc hb.size _, fun _ _ => ⟨W.heap.size, by simp [FreeV.upd], (snew W xs e).at_⟩, fun e => ?_, fun e => ?_⟩
  · rw [List.getElem?_set_ne (by decide), b1] at e; cases e
  · rw [List.getElem?_set_ne (by decide), b2] at e; cases e
theorem la_app (h : LA w2 xs jr ja P7 P9 bs β W) (b0 : bs[0]? = some true) (b1 : bs[1]? = some false) {T ty : TypeId} {v : Value}
    (hap : ∀ W, Below w2.heap.size w2 W → ∀ g, W.rangeAt g 0 xs → ∀ ty, ∃ v' w', (Builtin.append_ #[T, T] ty #[v, .slice (some ⟨g, 0, none⟩) 1 1]).run Try.prog W = .ok v' w' ∧ P7 v' w') :
    ∃ u w', (Builtin.append_ #[T, T] ty #[v, β jr]).run Try.prog W = .ok u w' ∧ LA w2 xs jr ja P7 P9 (bs.set 1 true) (FreeV.upd β ja u) w' := by
  obtain ⟨g, e6, hc⟩ := h.two b0 b1
  obtain ⟨v', w', hr, hp⟩ := hap W (h.bel b1) g hc ty
  rw [e6]
  have b2 := h.z2 b1
  refine ⟨v', w', hr, fun e => ?_, fun e => (by rw [set_at b1] at e; cases e), fun e => (by rw [set_at b1] at e; cases e), fun _ e => (by rw [set_at b1] at e; cases e), fun _ _ => by simpa [FreeV.upd] using hp, fun e => ?_⟩
  · rw [List.getElem?_set_ne (by decide), b0] at e; cases e
  · rw [List.getElem?_set_ne (by decide), b2] at e; cases e
theorem la_store (h : LA w2 xs jr ja P7 P9 bs β W) (b1 : bs[1]? = some true) (b2 : bs[2]? = some false) {T : TypeId} {p : Value}
    (hst : ∀ v' W, P7 v' W → ∃ w', (Instr.storeAt T p v').run Try.prog W = .ok () w' ∧ P9 w') :
    ∃ w', (Instr.storeAt T p (β ja)).run Try.prog W = .ok () w' ∧ LA w2 xs jr ja P7 P9 (bs.set 2 true) β w' := by
  obtain ⟨w', hr, hp⟩ := hst _ _ (h.three b1 b2)
  refine ⟨w', hr, fun e => ?_, fun e => ?_, fun e => ?_, fun _ e => ?_, fun _ e => (by rw [set_at b2] at e; cases e), fun _ => hp⟩
  · rw [List.getElem?_set_ne (by decide)] at e ⊢
    have := h.z1 e
    rw [b1] at this
    cases this
  · rw [List.getElem?_set_ne (by decide), b1] at e; cases e
  · rw [List.getElem?_set_ne (by decide), b1] at e; cases e
  · rw [List.getElem?_set_ne (by decide), b1] at e; cases e
end
theorem row35 (w : World) (x : Int) : (Instr.buildSlice 35 1 #[(0, .int .i64 x)]).run Try.prog w = .ok (.slice (some ⟨w.heap.size, 0, none⟩) 1 1) (w.alloc (.cells [.int .i64 x].toArray 3)) := by go_simp
theorem st_35 {w : World} {p : Addr} {u : Value} (a : Option Addr) (n cap : Nat) (h : w.cell? p = some u) (hf : w.frozen? p = false) : (Instr.storeAt 35 (.pointer (some p)) (.slice a n cap)).run Try.prog w = .ok () (w.setCell p (.slice a n cap)) := by go_simp

def Stays (Φ : Fact) : Prop := ∀ v lo hi W W', Φ v lo hi W → Below W.heap.size W W' → Φ v lo hi W'
theorem st1 {i : Nat} {A : Fact} (a : Stays A) : ∀ x : Nat × Fact, x ∈ [(i, A)] → ∀ v lo hi W W', x.2 v lo hi W → Below W.heap.size W W' → x.2 v lo hi W' := fun x hx => by
  simp only [List.mem_cons, List.not_mem_nil, or_false] at hx
  subst hx; exact a
theorem st2 {i j : Nat} {A B : Fact} (a : Stays A) (b : Stays B) : ∀ x : Nat × Fact, x ∈ [(i, A), (j, B)] → ∀ v lo hi W W', x.2 v lo hi W → Below W.heap.size W W' → x.2 v lo hi W' := fun x hx => by
  simp only [List.mem_cons, List.not_mem_nil, or_false] at hx
  rcases hx with rfl | rfl
  · exact a
  · exact b
theorem st3 {i j k : Nat} {A B C : Fact} (a : Stays A) (b : Stays B) (c : Stays C) : ∀ x : Nat × Fact, x ∈ [(i, A), (j, B), (k, C)] → ∀ v lo hi W W', x.2 v lo hi W → Below W.heap.size W W' → x.2 v lo hi W' := fun x hx => by
  simp only [List.mem_cons, List.not_mem_nil, or_false] at hx
  rcases hx with rfl | rfl | rfl
  · exact a
  · exact b
  · exact c
def RFar (g : Option Nat) (R : Rm) (s : Rs) : Prop := Far g s.ka R.l.length ∧ Far g s.va R.l.length ∧ Far g s.ga R.l.length ∧ Far g s.ta R.tab.length
theorem RevAt.far {W : World} {R : Rm} {s : Rs} (h : RevAt W R s) {b : Nat} (hb : W.heap.size ≤ b) : RFar (some b) R s :=
  ⟨keys_far h.k hb (fun e => by simpa using e), keys_far h.v hb (fun e => by simpa using e), bools_far h.g hb (fun e => by simpa using e), nums_far h.t hb (fun e => by rw [e]; rfl)⟩
theorem Rs.far {R : Rm} {s : Rs} {B b : Nat} (h : s.from_ B) (hb : b < B) : RFar (some b) R s :=
  ⟨far_of (fun x e => h x (.inl e)) hb, far_of (fun x e => h x (.inr (.inl e))) hb, far_of (fun x e => h x (.inr (.inr (.inl e)))) hb, far_of (fun x e => h x (.inr (.inr (.inr e)))) hb⟩
def FE (l : List En) : Fact := fun v _ _ W => ∃ a c, v = .slice a l.length c ∧ Ents W a l
def FR (R : Rm) : Fact := fun v lo hi W => ∃ s : Rs, v = .tuple #[R.v s, .int .i64 0] ∧ RevAt W R s ∧ s.from_ lo ∧ ∀ b, hi ≤ b → RFar (some b) R s
def FZ (row : List Value) : Fact := fun v lo hi W => ∃ z, v = .pointer (some ⟨z, 0, none⟩) ∧ lo ≤ z ∧ z < hi ∧ SVar W z row
theorem fe_st (l : List En) : Stays (FE l) := fun _ _ _ _ _ h hb => by
  obtain ⟨a, c, e, h⟩ := h
  exact ⟨a, c, e, h.below hb⟩
theorem fr_st (R : Rm) : Stays (FR R) := fun _ _ _ _ _ h hb => by
  obtain ⟨s, e, h, h2⟩ := h
  exact ⟨s, e, h.below hb, h2⟩
theorem fz_st (row : List Value) : Stays (FZ row) := fun _ _ _ _ _ h hb => by
  obtain ⟨z, e, h, h1, h2⟩ := h
  exact ⟨z, e, h, h1, h2.later hb⟩
theorem fz_new (W : World) (row : List Value) (ty : TypeId) : FZ row (.pointer (some ⟨W.heap.size, 0, none⟩)) W.heap.size (W.alloc (.cells row.toArray ty)).heap.size (W.alloc (.cells row.toArray ty)) := ⟨_, rfl, Nat.le_refl _, (snew W row ty).lt, snew _ _ _⟩
theorem fr_of {W w' : World} {R : Rm} {s : Rs} (hr : RevAt w' R s) (hf : s.from_ W.heap.size) : FR R (.tuple #[R.v s, .int .i64 0]) W.heap.size w'.heap.size w' := ⟨s, rfl, hr, hf, fun _ hb => hr.far hb⟩
theorem al_below (W : World) (o : Obj) : Below W.heap.size W (W.alloc o) := (Below.refl _ _).alloc (Nat.le_refl _) _

/-- A view that is being made: its two rows of numbers grow. -/
structure Vst (wv : World) (zv : Nat) (vrow : List Value) (na : Option Addr) (kn nc : Nat) (nx : List Int) (la : Option Addr) (kl lc : Nat) (ls : List Int) (W : World) : Prop where
  but : But zv wv W
  var : SVar W zv vrow
  zlt : zv < wv.heap.size
  n1 : W.ownsRow wv.heap.size 3 1 (.slice na kn nc) kn (ints nx)
  n2 : W.ownsRow wv.heap.size 3 1 (.slice la kl lc) kl (ints ls)
  ap : ∀ g, (Value.slice na kn nc).ownBlock = some g → (Value.slice la kl lc).ownBlock ≠ some g
section
variable {wv W : World} {zv : Nat} {vrow : List Value} {na la : Option Addr} {nc lc kn kl : Nat} {nx ls : List Int}
theorem Vst.later {W1 : World} (h : Vst wv zv vrow na kn nc nx la kl lc ls W) (hb : Below W.heap.size W W1) : Vst wv zv vrow na kn nc nx la kl lc ls W1 :=
  ⟨h.but.trans (But.of hb), h.var.later hb, h.zlt, own_later h.n1 hb, own_later h.n2 hb, h.ap⟩
theorem ints_snoc (l : List Int) (x : Int) : ints (l ++ [x]) = ints l ++ [.int .i64 x] := by simp [ints]
theorem Vst.app1 (h : Vst wv zv vrow na kn nc nx la kl lc ls W) (x : Int) (g : Nat) (hg : W.rangeAt g 0 [.int .i64 x]) (hn : kn + 1 ≤ 1000000) (ty : TypeId) :
    ∃ v' w', (Builtin.append_ #[35, 35] ty #[.slice na kn nc, .slice (some ⟨g, 0, none⟩) 1 1]).run Try.prog W = .ok v' w' ∧ ∃ a' c', v' = .slice a' (kn + 1) c' ∧ Vst wv zv vrow a' (kn + 1) c' (nx ++ [x]) la kl lc ls w' := by
  obtain ⟨a', c', w', h1, h2, h3, h4, h5, h6⟩ := sk35.app h.n1 h.but.size g [.int .i64 x] hg rfl (by intro u hu; simp at hu; subst hu; rfl) hn ty
  refine ⟨_, w', h1, a', c', rfl, ⟨⟨h4.os.trans h.but.os, h4.tape.trans h.but.tape, h4.output.trans h.but.output, Nat.le_trans h.but.size h4.size, fun k hk hz => (h4.block k hk).trans (h.but.block k hk hz)⟩, h.var.same h3 (h4.block zv h.zlt), h.zlt, ?_, own_same h.n2 fun k hk => h5 k (World.ownsRow.lt h.n2 k hk).2 fun e => h.ap k e hk, fun k hk hl => ?_⟩⟩
  · rw [ints_snoc]
    exact h2
  · rcases h6 with e | e
    · rw [e] at hk
      exact h.ap k hk hl
    · rw [e] at hk
      cases hk
      have := (World.ownsRow.lt h.n2 _ hl).2
      omega
theorem Vst.app2 (h : Vst wv zv vrow na kn nc nx la kl lc ls W) (x : Int) (g : Nat) (hg : W.rangeAt g 0 [.int .i64 x]) (hn : kl + 1 ≤ 1000000) (ty : TypeId) :
    ∃ v' w', (Builtin.append_ #[35, 35] ty #[.slice la kl lc, .slice (some ⟨g, 0, none⟩) 1 1]).run Try.prog W = .ok v' w' ∧ ∃ a' c', v' = .slice a' (kl + 1) c' ∧ Vst wv zv vrow na kn nc nx a' (kl + 1) c' (ls ++ [x]) w' := by
  obtain ⟨a', c', w', h1, h2, h3, h4, h5, h6⟩ := sk35.app h.n2 h.but.size g [.int .i64 x] hg rfl (by intro u hu; simp at hu; subst hu; rfl) hn ty
  refine ⟨_, w', h1, a', c', rfl, ⟨⟨h4.os.trans h.but.os, h4.tape.trans h.but.tape, h4.output.trans h.but.output, Nat.le_trans h.but.size h4.size, fun k hk hz => (h4.block k hk).trans (h.but.block k hk hz)⟩, h.var.same h3 (h4.block zv h.zlt), h.zlt, own_same h.n1 fun k hk => h5 k (World.ownsRow.lt h.n1 k hk).2 fun e => h.ap k hk e, ?_, fun k hk hl => ?_⟩⟩
  · rw [ints_snoc]
    exact h2
  · rcases h6 with e | e
    · rw [e] at hl
      exact h.ap k hk hl
    · rw [e] at hl
      cases hl
      have := (World.ownsRow.lt h.n1 _ hk).2
      omega
theorem Vst.put (h : Vst wv zv vrow na kn nc nx la kl lc ls W) {i : Nat} (hi : i < vrow.length) (u : Value) : Vst wv zv (vrow.set i u) na kn nc nx la kl lc ls (W.setCell ⟨zv, i, none⟩ u) := by
  have hb : But zv W (W.setCell ⟨zv, i, none⟩ u) := (But.refl zv W).set i u
  refine ⟨h.but.trans hb, h.var.set hi u, h.zlt, own_but h.n1 hb fun e => ?_, own_but h.n2 hb fun e => ?_, h.ap⟩
  · have := (World.ownsRow.lt h.n1 _ e).1
    have := h.zlt
    omega
  · have := (World.ownsRow.lt h.n2 _ e).1
    have := h.zlt
    omega
end
end Go.Proofs.Ytjlifkhpohfiaaa
