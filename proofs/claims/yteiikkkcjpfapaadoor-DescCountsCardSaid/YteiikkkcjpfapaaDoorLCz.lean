/- DescCounts's function as a program, its stages, and what is true of all who run it, memory alone. Conditions: at most 6 of them, at most 15000 asks. -/
import Derived.Test.YteiikkkcjpfapaaDoorWd
import Derived.Test.YteiikkkcjpfapaaDoorWGen
import Derived.Test.YteiikkkcjpfapaaDoorOpen
namespace Go.Proofs.YteiikkkcjpfapaaDoor
open Go.RowKit Go.Op
set_option maxRecDepth 100000

/-- What add does behind Latest; N: what comes next. -/
def addK (N : Pr Int) (x : La) : Pr Int := if x.err = 0 then (if x.is = true then
    .ask (.word 4) fun a => (makeP (wrap64 (x.d.ver + 1)) x.d.ver [⟨4, a.n, wrap64 (a.n + 1)⟩]).bind fun g =>
      if a.err = 0 ∧ g.2 = 0 then .ask (.swap 3 x.h g.1) fun p => if p.err = 0 then
        (if p.ok = true then (heldP g.1).bind fun k => if k.2 = 0 then (helpP k.1).bind fun q => if q = 0 then .ret (wrap64 (x.d.ver + 1)) else .ret (-1) else .ret (-1)
        else (undoP g.1).bind fun u => if u = 0 then N else .ret (-1))
      else .ret (-1) else .ret (-1)
    else (helpP x.d).bind fun q => if q = 0 then N else .ret (-1)) else .ret (-1)
def aA (N : Pr Int) : Pr Int := (lastP 3).bind (addK N)
def addP : Nat → Pr Int
  | 0 => .ret 0
  | n + 1 => aA (addP n)
/-- The descriptor of a version. -/
def dk : Nat → Int → Ds
  | 0, s => ⟨0, 0, s, [], none, 0, 0⟩
  | k + 1, s => ⟨(k : Int) + 1, k, s, [⟨4, k, (k : Int) + 1⟩], none, 0, 0⟩
def dg (k : Nat) (n t : Int) : Ds := ⟨(k : Int) + 1, k, t, [⟨4, n, n + 1⟩], none, 0, 0⟩
theorem dk_ver : ∀ (k : Nat) (s : Int), (dk k s).ver = k
  | 0, _ => rfl
  | _ + 1, _ => rfl
theorem dk_bf : ∀ (k : Nat) (s : Int), (dk k s).bf = ((k - 1 : Nat) : Int)
  | 0, _ => rfl
  | _ + 1, _ => rfl
theorem dk_st : ∀ (k : Nat) (s : Int), (dk k s).st = s
  | 0, _ => rfl
  | _ + 1, _ => rfl
/-- Where one is. -/
inductive Stg where
  | s0
  | sb (k : Nat) (h : Int)
  | sc (k : Nat) (h s : Int)
  | d1 (k : Nat) (h s : Int)
  | d2 (k : Nat) (h s : Int) (ok : Bool)
  | se (k : Nat) (h s : Int)
  | sf (k : Nat) (h s n : Int)
  | sg (k : Nat) (h s n t : Int)
  | sh (k : Nat) (h s n t g : Int)
  | u1 (k : Nat) (h s n t g : Int)
  | u2 (k : Nat) (h s n t g : Int)
  | u3 (k : Nat) (h s n t g : Int)
  | sp (k : Nat) (h s t g : Int)
  | p1 (k : Nat) (h s t g : Int)
  | p2 (k : Nat) (h s t g : Int) (ok : Bool)
  | sz (v : Nat)
def aw (n : Int) : An := ⟨.no, n, false, 0⟩
def ad (d : Ds) : An := ⟨.desc d, 0, false, 0⟩
def asw (ok : Bool) : An := ⟨.no, 0, ok, 0⟩
/-- What it was told in this round. -/
def Stg.cur : Stg → List An
  | .s0 => []
  | .sb _ h => [aw h]
  | .sc k h s => [aw h, ad (dk k s)]
  | .d1 k h s => [aw h, ad (dk (k + 1) s), aw 0]
  | .d2 k h s ok => [aw h, ad (dk (k + 1) s), aw 0, asw ok]
  | .se k h s => [aw h, ad (dk k s), aw 1]
  | .sf k h s n => [aw h, ad (dk k s), aw 1, aw n]
  | .sg k h s n t => [aw h, ad (dk k s), aw 1, aw n, aw t]
  | .sh k h s n t g => [aw h, ad (dk k s), aw 1, aw n, aw t, aw g]
  | .u1 k h s n t g => [aw h, ad (dk k s), aw 1, aw n, aw t, aw g, asw false]
  | .u2 k h s n t g => [aw h, ad (dk k s), aw 1, aw n, aw t, aw g, asw false, ad (dg k n t)]
  | .u3 k h s n t g => [aw h, ad (dk k s), aw 1, aw n, aw t, aw g, asw false, ad (dg k n t), asw false]
  | .sp k h s t g => [aw h, ad (dk k s), aw 1, aw k, aw t, aw g, asw true]
  | .p1 k h s t g => [aw h, ad (dk k s), aw 1, aw k, aw t, aw g, asw true, ad (dg k k t)]
  | .p2 k h s t g ok => [aw h, ad (dk k s), aw 1, aw k, aw t, aw g, asw true, ad (dg k k t), asw ok]
  | .sz _ => []
/-- What it asks for next. -/
def Stg.q : Stg → Qn
  | .s0 => .word 3
  | .sb _ h => .load h
  | .sc _ _ s => .word s
  | .d1 k _ _ => .swap 4 k ((k : Int) + 1)
  | .d2 _ _ s _ => .swap s 0 1
  | .se _ _ _ => .word 4
  | .sf _ _ _ _ => .alloc (.word 0)
  | .sg k _ _ n t => .alloc (.desc (dg k n t))
  | .sh _ h _ _ _ g => .swap 3 h g
  | .u1 _ _ _ _ _ g => .load g
  | .u2 _ _ _ _ t _ => .free t
  | .u3 _ _ _ _ _ g => .free g
  | .sp _ _ _ _ g => .load g
  | .p1 k _ _ _ _ => .swap 4 k ((k : Int) + 1)
  | .p2 _ _ _ t _ _ => .swap t 0 1
  | .sz _ => .word 0
theorem wrap_small (n : Int) (h : 0 ≤ n ∧ n ≤ 1000) : wrap64 (n + 1) = n + 1 := by unfold wrap64; omega
def Stg.small : Stg → Prop
  | .sg k _ _ n _ => k ≤ 900 ∧ 0 ≤ n ∧ n ≤ 1000
  | _ => True
theorem ask_at (N : Pr Int) (st : Stg) (hz : ∀ v, st ≠ .sz v) (hsm : st.small) : (∃ k, (aA N).rest st.cur = .ask st.q k) ∧ (aA N).goes st.cur := by
  cases st with
  | sz v => exact absurd rfl (hz v)
  | s0 => exact ⟨⟨_, rfl⟩, trivial⟩
  | sb k h => exact ⟨⟨_, rfl⟩, trivial⟩
  | sc k h s => cases k <;> exact ⟨⟨_, rfl⟩, trivial⟩
  | d1 k h s => exact ⟨⟨_, rfl⟩, trivial⟩
  | d2 k h s ok => exact ⟨⟨_, rfl⟩, trivial⟩
  | se k h s => cases k <;> exact ⟨⟨_, rfl⟩, trivial⟩
  | sf k h s n => cases k <;> exact ⟨⟨_, rfl⟩, trivial⟩
  | sg k h s n t =>
    obtain ⟨h1, h2⟩ := hsm
    have e2 := wrap_small n h2
    cases k with
    | zero =>
      obtain ⟨c, hc⟩ : ∃ c, (aA N).rest (Stg.sg 0 h s n t).cur = .ask (.alloc (.desc ⟨wrap64 (0 + 1), 0, t, [⟨4, n, wrap64 (n + 1)⟩], none, 0, 0⟩)) c := ⟨_, rfl⟩
      rw [e2, wrap_small 0 (by omega)] at hc
      exact ⟨⟨c, hc⟩, trivial⟩
    | succ k =>
      obtain ⟨c, hc⟩ : ∃ c, (aA N).rest (Stg.sg (k + 1) h s n t).cur = .ask (.alloc (.desc ⟨wrap64 ((k : Int) + 1 + 1), (k : Int) + 1, t, [⟨4, n, wrap64 (n + 1)⟩], none, 0, 0⟩)) c := ⟨_, rfl⟩
      rw [e2, wrap_small ((k : Int) + 1) (by omega)] at hc
      exact ⟨⟨c, hc⟩, trivial⟩
  | sh k h s n t g => cases k <;> exact ⟨⟨_, rfl⟩, trivial⟩
  | u1 k h s n t g => cases k <;> exact ⟨⟨_, rfl⟩, trivial⟩
  | u2 k h s n t g => cases k <;> exact ⟨⟨_, rfl⟩, trivial⟩
  | u3 k h s n t g => cases k <;> exact ⟨⟨_, rfl⟩, trivial⟩
  | sp k h s t g => cases k <;> exact ⟨⟨_, rfl⟩, trivial⟩
  | p1 k h s t g => cases k <;> exact ⟨⟨_, rfl⟩, trivial⟩
  | p2 k h s t g ok => cases k <;> exact ⟨⟨_, rfl⟩, trivial⟩
theorem rest_nil {α : Type} (p : Pr α) : p.rest [] = p := by cases p <;> rfl
theorem end_d2 (N : Pr Int) (k : Nat) (h s : Int) (ok ok2 : Bool) : (aA N).rest ((Stg.d2 k h s ok).cur ++ [asw ok2]) = N := (show (aA N).rest ((Stg.d2 k h s ok).cur ++ [asw ok2]) = N.rest [] from rfl).trans (rest_nil N)
theorem end_u3 (N : Pr Int) (k : Nat) (h s n t g : Int) : (aA N).rest ((Stg.u3 k h s n t g).cur ++ [asw false]) = N := (show (aA N).rest ((Stg.u3 k h s n t g).cur ++ [asw false]) = N.rest [] by cases k <;> rfl).trans (rest_nil N)
theorem end_p2 (N : Pr Int) (k : Nat) (hk : k ≤ 900) (h s t g : Int) (ok ok2 : Bool) : (aA N).rest ((Stg.p2 k h s t g ok).cur ++ [asw ok2]) = .ret ((k + 1 : Nat) : Int) := by
  have e : (aA N).rest ((Stg.p2 k h s t g ok).cur ++ [asw ok2]) = .ret (wrap64 ((dk k s).ver + 1)) := by cases k <;> rfl
  rw [e, dk_ver, wrap_small _ (by omega)]
  rfl

/-- What is true of all: the descriptors that were published, with their statuses; is the last one done; the cell's word. -/
structure Gs where
  ch : List (Int × Int)
  dn : Bool
  cw : Nat
def Gs.K (γ : Gs) : Nat := γ.ch.length - 1
/-- Whose a handle is. -/
inductive Who where
  | no
  | top
  | cell
  | ch (k : Nat)
  | cs (k : Nat)
  | ps (i : Nat)
  | pg (i : Nat)
def Priv (m : M) (ow : Int → Who) (i : Nat) (t : Int) : Prop := m.look t = some (.word 0) ∧ ow t = .ps i
def PrivG (m : M) (ow : Int → Who) (i : Nat) (g : Int) (d : Ds) : Prop := m.look g = some (.desc d) ∧ ow g = .pg i
/-- What is true of one who is there. -/
def Cond (m : M) (γ : Gs) (ow : Int → Who) (i : Nat) : Stg → Prop
  | .s0 => True
  | .sb k h => ∃ s, γ.ch[k]? = some (h, s)
  | .sc k h s => γ.ch[k]? = some (h, s)
  | .d1 k h s => γ.ch[k + 1]? = some (h, s)
  | .d2 k h s _ => γ.ch[k + 1]? = some (h, s) ∧ (k + 1 = γ.K → γ.cw = γ.K)
  | .se k h s => γ.ch[k]? = some (h, s) ∧ (k = γ.K → γ.dn = true)
  | .sf k h s n => (γ.ch[k]? = some (h, s) ∧ (k = γ.K → γ.dn = true ∧ n = k)) ∧ 0 ≤ n ∧ n ≤ 6
  | .sg k h s n t => ((γ.ch[k]? = some (h, s) ∧ (k = γ.K → γ.dn = true ∧ n = k)) ∧ 0 ≤ n ∧ n ≤ 6) ∧ Priv m ow i t
  | .sh k h s n t g => ((γ.ch[k]? = some (h, s) ∧ (k = γ.K → γ.dn = true ∧ n = k)) ∧ 0 ≤ n ∧ n ≤ 6) ∧ Priv m ow i t ∧ PrivG m ow i g (dg k n t)
  | .u1 k _ _ n t g => Priv m ow i t ∧ PrivG m ow i g (dg k n t)
  | .u2 k _ _ n t g => Priv m ow i t ∧ PrivG m ow i g (dg k n t)
  | .u3 k _ _ n t g => PrivG m ow i g (dg k n t)
  | .sp k _ _ t g => γ.ch[k + 1]? = some (g, t)
  | .p1 k _ _ t g => γ.ch[k + 1]? = some (g, t)
  | .p2 k _ _ t g _ => γ.ch[k + 1]? = some (g, t) ∧ (k + 1 = γ.K → γ.cw = γ.K)
  | .sz _ => True
structure Gs.le (a b : Gs) : Prop where
  ch : ∀ (k : Nat) (p : Int × Int), a.ch[k]? = some p → b.ch[k]? = some p
  top : ∀ (k : Nat) (p : Int × Int), a.ch[k]? = some p → k = b.K → k = a.K ∧ (a.dn = true → b.dn = true) ∧ (a.cw = a.K → b.cw = b.K)
theorem Gs.le.refl (γ : Gs) : γ.le γ := ⟨fun _ _ h => h, fun _ _ _ e => ⟨e, id, id⟩⟩
/-- What stays of one's own. -/
def KeepP (j : Nat) (m m' : M) (ow ow' : Int → Who) : Prop := ∀ x, (m.look x).isSome = true → ow x = .ps j ∨ ow x = .pg j → m'.look x = m.look x ∧ ow' x = ow x
theorem Priv.keep {m m' : M} {ow ow' : Int → Who} {j : Nat} {t : Int} (h : Priv m ow j t) (k : KeepP j m m' ow ow') : Priv m' ow' j t := by
  obtain ⟨q1, q2⟩ := k t (by rw [h.1]; rfl) (.inl h.2)
  exact ⟨q1.trans h.1, q2.trans h.2⟩
theorem PrivG.keep {m m' : M} {ow ow' : Int → Who} {j : Nat} {t : Int} {d : Ds} (h : PrivG m ow j t d) (k : KeepP j m m' ow ow') : PrivG m' ow' j t d := by
  obtain ⟨q1, q2⟩ := k t (by rw [h.1]; rfl) (.inr h.2)
  exact ⟨q1.trans h.1, q2.trans h.2⟩
theorem Cond.keep {m m' : M} {γ γ' : Gs} {ow ow' : Int → Who} {j : Nat} {st : Stg} (h : Cond m γ ow j st) (hg : γ.le γ') (hk : KeepP j m m' ow ow') : Cond m' γ' ow' j st := by
  have key : ∀ {i : Nat} {p : Int × Int} {n : Int} , γ.ch[i]? = some p ∧ (i = γ.K → γ.dn = true ∧ n = i) → γ'.ch[i]? = some p ∧ (i = γ'.K → γ'.dn = true ∧ n = i) := fun h => ⟨hg.ch _ _ h.1, fun e =>
    let ⟨q1, q2, _⟩ := hg.top _ _ h.1 e
    ⟨q2 (h.2 q1).1, (h.2 q1).2⟩⟩
  have key2 : ∀ {i : Nat} {p : Int × Int}, γ.ch[i]? = some p ∧ (i = γ.K → γ.cw = γ.K) → γ'.ch[i]? = some p ∧ (i = γ'.K → γ'.cw = γ'.K) := fun h => ⟨hg.ch _ _ h.1, fun e =>
    let ⟨q1, _, q3⟩ := hg.top _ _ h.1 e
    q3 (h.2 q1)⟩
  cases st with
  | s0 => trivial
  | sz v => trivial
  | sb k h => obtain ⟨s, h⟩ := h; exact ⟨s, hg.ch _ _ h⟩
  | sc k h s => exact hg.ch _ _ h
  | d1 k h s => exact hg.ch _ _ h
  | d2 k h s ok => exact key2 h
  | se k h s => exact ⟨hg.ch _ _ h.1, fun e => let ⟨q1, q2, _⟩ := hg.top _ _ h.1 e; q2 (h.2 q1)⟩
  | sf k h s n => exact ⟨key h.1, h.2⟩
  | sg k h s n t => exact ⟨⟨key h.1.1, h.1.2⟩, h.2.keep hk⟩
  | sh k h s n t g => exact ⟨⟨key h.1.1, h.1.2⟩, h.2.1.keep hk, h.2.2.keep hk⟩
  | u1 k h s n t g => exact ⟨h.1.keep hk, h.2.keep hk⟩
  | u2 k h s n t g => exact ⟨h.1.keep hk, h.2.keep hk⟩
  | u3 k h s n t g => exact PrivG.keep h hk
  | sp k h s t g => exact hg.ch _ _ h
  | p1 k h s t g => exact hg.ch _ _ h
  | p2 k h s t g ok => exact key2 h
/-- The descriptors, the top, the cell. -/
structure Chn (m : M) (γ : Gs) (ow : Int → Who) : Prop where
  ne : 0 < γ.ch.length
  tp : ∀ p : Int × Int, γ.ch[γ.K]? = some p → m.look 3 = some (.word p.1)
  hold : ∀ (k : Nat) (p : Int × Int), γ.ch[k]? = some p → m.look p.1 = some (.desc (dk k p.2)) ∧ m.look p.2 = some (.word (if k = γ.K ∧ γ.dn = false then 0 else 1)) ∧ ow p.1 = .ch k ∧ ow p.2 = .cs k
  cl : m.look 4 = some (.word γ.cw)
  cw : γ.cw = γ.K ∨ (γ.dn = false ∧ γ.cw + 1 = γ.K)
  k0 : γ.K = 0 → γ.dn = true
  o3 : ow 3 = .top
  o4 : ow 4 = .cell
def tot (f : Stg → Nat) : List Stg → Nat
  | [] => 0
  | x :: l => f x + tot f l
theorem tot_set (f : Stg → Nat) : ∀ (l : List Stg) (i : Nat) (x y : Stg), l[i]? = some x → tot f (l.set i y) + f x = tot f l + f y
  | [], i, x, y, h => by simp at h
  | sz :: l, 0, x, y, h => by
    simp at h
    subst h
    rw [List.set_cons_zero, tot, tot]; omega
  | sz :: l, i + 1, x, y, h => by
    rw [List.set_cons_succ, tot, tot]
    have := tot_set f l i x y (by simpa using h)
    omega
theorem tot_le (f : Stg → Nat) (c : Nat) (hf : ∀ x, f x ≤ c) : ∀ l : List Stg, tot f l ≤ c * l.length
  | [] => Nat.zero_le _
  | x :: l => by
    have := tot_le f c hf l
    have := hf x
    rw [tot, List.length_cons, Nat.mul_add]; omega
def Stg.pub : Stg → Nat
  | .sp .. => 1
  | .p1 .. => 1
  | .p2 .. => 1
  | .sz _ => 1
  | _ => 0
def Stg.npr : Stg → Nat
  | .sg .. => 1
  | .sh .. => 2
  | .u1 .. => 2
  | .u2 .. => 2
  | .u3 .. => 1
  | _ => 0
def Stg.ver : Stg → Option Nat
  | .sp k .. => some (k + 1)
  | .p1 k .. => some (k + 1)
  | .p2 k .. => some (k + 1)
  | .sz v => some v
  | _ => none
theorem pub_le (x : Stg) : x.pub ≤ 1 := by cases x <;> simp [Stg.pub]
theorem npr_le (x : Stg) : x.npr ≤ 2 := by cases x <;> simp [Stg.npr]
/-- All of it. -/
structure Gw (m : M) (γ : Gs) (ow : Int → Who) (S : List Stg) (cc : Int) : Prop where
  tidy : Tidy m
  len : m.cells.length = 100
  cnt : m.count ≤ cc
  live : m.live = 4 + 2 * (tot Stg.pub S : Int) + (tot Stg.npr S : Int)
  few : S.length ≤ 6
  chl : γ.ch.length = tot Stg.pub S + 1
  chn : Chn m γ ow
  cond : ∀ (i : Nat) (st : Stg), S[i]? = some st → Cond m γ ow i st
  ver : ∀ (i : Nat) (st : Stg) (v : Nat), S[i]? = some st → st.ver = some v → 1 ≤ v ∧ v ≤ γ.K
  uniq : ∀ (i j : Nat) (st st' : Stg) (v : Nat), S[i]? = some st → S[j]? = some st' → st.ver = some v → st'.ver = some v → i = j
theorem setg {α : Type} {l : List α} {i j : Nat} {a x : α} (h : (l.set i a)[j]? = some x) : (j = i ∧ x = a) ∨ (j ≠ i ∧ l[j]? = some x) := by
  rw [List.getElem?_set] at h
  split at h
  · split at h
    · cases h; exact .inl ⟨by omega, rfl⟩
    · cases h
  · exact .inr ⟨by omega, h⟩
section
variable {m m' : M} {γ γ' : Gs} {ow ow' : Int → Who} {S : List Stg} {cc : Int} {i : Nat} {st st' : Stg}
theorem Gw.next (h : Gw m γ ow S cc) (hi : S[i]? = some st) (t1 : Tidy m') (t2 : m'.cells.length = m.cells.length) (t3 : m'.count = m.count + 1) (t4 : m'.live + 2 * (st.pub : Int) + (st.npr : Int) = m.live + 2 * (st'.pub : Int) + (st'.npr : Int))
    (c1 : γ'.ch.length + st.pub = γ.ch.length + st'.pub) (c2 : Chn m' γ' ow') (c3 : γ.le γ') (c4 : ∀ j, j ≠ i → KeepP j m m' ow ow') (c5 : Cond m' γ' ow' i st') (c6 : ∀ v, st'.ver = some v → st.ver = some v ∨ (v = γ'.K ∧ γ.K < v)) : Gw m' γ' ow' (S.set i st') (cc + 1) := by
  have s1 := tot_set Stg.pub S i st st' hi
  have s2 := tot_set Stg.npr S i st st' hi
  have l1 := h.live
  have l2 := h.chl
  have hK : γ.K ≤ γ'.K := by
    have hn := h.chn.ne
    obtain ⟨p, hp⟩ : ∃ p, γ.ch[γ.K]? = some p := ⟨_, List.getElem?_eq_getElem (by unfold Gs.K; omega)⟩
    have := (List.getElem?_eq_some_iff.1 (c3.ch _ _ hp)).1
    unfold Gs.K at *; omega
  have hver : ∀ v, st'.ver = some v → 1 ≤ v ∧ v ≤ γ'.K := fun v hv => by
    rcases c6 v hv with e | ⟨e1, e2⟩
    · have := h.ver i st v hi e
      omega
    · omega
  refine ⟨t1, t2.trans h.len, by have := h.cnt; omega, by omega, by rw [List.length_set]; exact h.few, by omega, c2, fun j s hs => ?_, fun j s v hs hv => ?_, fun j k s s' v hs hs' hv hv' => ?_⟩
  · rcases setg hs with ⟨rfl, rfl⟩ | ⟨hne, hs⟩
    · exact c5
    · exact (h.cond j s hs).keep c3 (c4 j hne)
  · rcases setg hs with ⟨rfl, rfl⟩ | ⟨hne, hs⟩
    · exact hver v hv
    · have := h.ver j s v hs hv
      omega
  · have key : ∀ (j : Nat) (s : Stg), S[j]? = some s → s.ver = some v → st'.ver = some v → i = j := fun j s hs hv hv' => by
      rcases c6 v hv' with e | ⟨e1, e2⟩
      · exact h.uniq i j st s v hi hs e hv
      · have := h.ver j s v hs hv
        omega
    rcases setg hs with ⟨rfl, rfl⟩ | ⟨hne, hs1⟩ <;> rcases setg hs' with ⟨rfl, rfl⟩ | ⟨hne', hs1'⟩
    · rfl
    · exact key k s' hs1' hv' hv
    · exact (key j s hs1 hv hv').symm
    · exact h.uniq j k s s' v hs1 hs1' hv hv'
theorem keepP_same (hl : ∀ x, (m.look x).isSome = true → m'.look x = m.look x) : ∀ j, KeepP j m m' ow ow := fun _ x hx _ => ⟨hl x hx, rfl⟩
theorem Chn.same (h : Chn m γ ow) (hl : ∀ x, (m.look x).isSome = true → m'.look x = m.look x) : Chn m' γ ow := by
  have g : ∀ {k v}, m.look k = some v → m'.look k = some v := fun e => by rw [hl _ (by rw [e]; rfl)]; exact e
  exact ⟨h.ne, fun p hp => g (h.tp p hp), fun k p hp => let ⟨q1, q2, q3⟩ := h.hold k p hp; ⟨g q1, g q2, q3⟩, g h.cl, h.cw, h.k0, h.o3, h.o4⟩
theorem tidy_more {m : M} (h : Tidy m) (k : Nat) : Tidy (m.more k) := ⟨fun i x hx => by have := h.gen i x hx; simp only [M.more]; omega, h.liv, by have := h.pos; simp only [M.more]; omega⟩
/-- Memory is only read. -/
theorem Gw.read (h : Gw m γ ow S cc) (hi : S[i]? = some st) (hp : st'.pub = st.pub) (hn : st'.npr = st.npr) (hv : st'.ver = st.ver) (hc : Cond m γ ow i st') : Gw (m.more 1) γ ow (S.set i st') (cc + 1) :=
  h.next hi (tidy_more h.tidy 1) rfl rfl (by rw [hp, hn]; rfl) (by rw [hp]) (h.chn.same fun x _ => more_look m 1 x) (Gs.le.refl γ) (fun j _ => keepP_same (fun x _ => more_look m 1 x) j) (hc.keep (Gs.le.refl γ) (keepP_same (fun x _ => more_look m 1 x) i)) (fun v e => .inl (by rw [← hv]; exact e))
end
end Go.Proofs.YteiikkkcjpfapaaDoor
/- What one ask of one of them makes of it all; how far each has to go. Conditions: at most 15000 asks. -/
namespace Go.Proofs.YteiikkkcjpfapaaDoor
open Go.RowKit Go.Op
set_option maxRecDepth 100000

def costA (γ : Gs) : Nat := if γ.dn = true then 10 else 15
def muC (γ : Gs) (k : Nat) : Nat := if k = γ.K then (if γ.dn = true then 8 else 13) else 8 + costA γ
def muX (γ : Gs) (k : Nat) : Nat := if k = γ.K then 10 else costA γ
/-- In how many steps one who is alone is there. -/
def mu (γ : Gs) : Stg → Nat
  | .s0 => costA γ
  | .sb k _ => 1 + muC γ k
  | .sc k _ _ => muC γ k
  | .d1 k _ _ => 2 + muX γ (k + 1)
  | .d2 k _ _ _ => 1 + muX γ (k + 1)
  | .se k _ _ => if k = γ.K then 7 else 7 + costA γ
  | .sf k _ _ _ => if k = γ.K then 6 else 6 + costA γ
  | .sg k _ _ _ _ => if k = γ.K then 5 else 5 + costA γ
  | .sh k _ _ _ _ _ => if k = γ.K then 4 else 4 + costA γ
  | .u1 _ _ _ _ _ _ => 3 + costA γ
  | .u2 _ _ _ _ _ _ => 2 + costA γ
  | .u3 _ _ _ _ _ _ => 1 + costA γ
  | .sp _ _ _ _ _ => 3
  | .p1 _ _ _ _ _ => 2
  | .p2 _ _ _ _ _ _ => 1
  | .sz _ => 0
theorem costA_le (γ : Gs) : costA γ ≤ 15 := by unfold costA; split <;> omega
theorem mu_le (γ : Gs) (st : Stg) : mu γ st ≤ 24 := by
  have := costA_le γ
  cases st <;> simp only [mu, muC, muX] <;> repeat' split
  all_goals omega
theorem ask_more1 (m : M) : m.ask = m.more 1 := by simp [M.ask, M.more]
/-- What follows an answer. -/
def Nx (st : Stg) (a : An) (st' : Stg) : Prop :=
  (st'.cur = st.cur ++ [a] ∧ ∀ v, st' ≠ .sz v) ∨ (st' = .s0 ∧ ∀ N, (aA N).rest (st.cur ++ [a]) = N) ∨ ∃ v : Nat, st' = .sz v ∧ ∀ N, (aA N).rest (st.cur ++ [a]) = .ret (v : Int)
section
variable {m m' : M} {γ γ' : Gs} {ow ow' : Int → Who} {S : List Stg} {cc : Int} {i : Nat} {st st' : Stg}
theorem Chn.last (h : Chn m γ ow) : ∃ p, γ.ch[γ.K]? = some p := ⟨_, List.getElem?_eq_getElem (by have := h.ne; unfold Gs.K; omega)⟩
theorem Gs.at_le {k : Nat} {p : Int × Int} (hk : γ.ch[k]? = some p) : k ≤ γ.K := by
  have := (List.getElem?_eq_some_iff.1 hk).1
  unfold Gs.K; omega
theorem Gw.K_le (h : Gw m γ ow S cc) : γ.K ≤ 6 := by
  have := tot_le Stg.pub 1 pub_le S
  have := h.few
  have := h.chl
  unfold Gs.K; omega
theorem Gw.small (h : Gw m γ ow S cc) (hi : S[i]? = some st) : st.small := by
  have hc := h.cond i st hi
  have := h.K_le
  cases st with
  | sg k hd s n t =>
    have := Gs.at_le hc.1.1.1
    have := hc.1.2
    exact ⟨by omega, by omega, by omega⟩
  | _ => trivial
/-- A swap of the cell. -/
theorem Gw.cellswap (h : Gw m γ ow S cc) (hi : S[i]? = some st) {k : Nat} {p : Int × Int} (hk : γ.ch[k + 1]? = some p) (st' : Bool → Stg) (hp : ∀ ok, (st' ok).pub = st.pub) (hn : ∀ ok, (st' ok).npr = st.npr) (hv : ∀ ok, (st' ok).ver = st.ver)
    (hc : ∀ m' γ' ok, γ'.ch = γ.ch → (k + 1 = γ'.K → γ'.cw = γ'.K) → Cond m' γ' ow i (st' ok)) :
    ∃ m' ok γ', (Qn.swap 4 k ((k : Int) + 1)).on m = (m', asw ok) ∧ Gw m' γ' ow (S.set i (st' ok)) (cc + 1) ∧ γ'.ch = γ.ch ∧ γ'.dn = γ.dn := by
  have hle := Gs.at_le hk
  by_cases hw : γ.cw = k
  · have hw2 : γ.dn = false ∧ γ.cw + 1 = γ.K := by
      rcases h.chn.cw with e | e
      · omega
      · exact e
    have hcl := h.chn.cl
    rw [hw] at hcl
    obtain ⟨m', e, q1, q2, q3, q4, q5⟩ := swap_yes (n := (k : Int) + 1) hcl
    have keep : ∀ x, ow x ≠ .cell → m'.look x = m.look x := fun x hx => by
      rw [q1, if_neg fun e => hx (by rw [e]; exact h.chn.o4)]
    have hle2 : γ.le ⟨γ.ch, γ.dn, k + 1⟩ := ⟨fun _ _ h => h, fun k' p' hp' e => ⟨e, id, fun e2 => by
      show k + 1 = γ.K
      omega⟩⟩
    refine ⟨m', true, ⟨γ.ch, γ.dn, k + 1⟩, by simp only [Qn.on, e]; rfl, h.next hi (q2 h.tidy) q4 q5 (by rw [hp, hn, q3]) (by rw [hp]) ⟨h.chn.ne, fun p hp => ?_, fun k' p' hp' => ?_, ?_, ?_, h.chn.k0, h.chn.o3, h.chn.o4⟩ hle2 (fun j _ x hx ho => ⟨keep x fun e => ?_, rfl⟩) (hc _ _ _ rfl fun _ => ?_) (fun v e => .inl (by rw [← hv true]; exact e)), rfl, rfl⟩
    · rw [keep 3 (by rw [h.chn.o3]; exact fun e => (by cases e))]
      exact h.chn.tp p hp
    · obtain ⟨z1, z2, z3, z4⟩ := h.chn.hold k' p' hp'
      exact ⟨by rw [keep _ (by rw [z3]; exact fun e => (by cases e))]; exact z1, by rw [keep _ (by rw [z4]; exact fun e => (by cases e))]; exact z2, z3, z4⟩
    · rw [q1, if_pos rfl]; rfl
    · exact .inl (by show k + 1 = γ.K; omega)
    · rw [e] at ho; rcases ho with ho | ho <;> cases ho
    · show k + 1 = γ.K; omega
  · have e := swap_no (o := (k : Int)) (n := (k : Int) + 1) h.chn.cl (by omega)
    refine ⟨m.more 1, false, γ, by simp only [Qn.on, e]; rfl, h.read hi (hp _) (hn _) (hv _) (hc _ _ _ rfl fun e2 => ?_), rfl, rfl⟩
    rcases h.chn.cw with e3 | e3 <;> omega
/-- A swap of a status. -/
theorem Gw.statswap (h : Gw m γ ow S cc) (hi : S[i]? = some st) {k : Nat} {p : Int × Int} (hk : γ.ch[k + 1]? = some p) (hw : k + 1 = γ.K → γ.cw = γ.K) (st' : Stg) (hp : st'.pub = st.pub) (hn : st'.npr = st.npr) (hv : st'.ver = st.ver)
    (hc : ∀ m' γ', Cond m' γ' ow i st') :
    ∃ m' ok γ', (Qn.swap p.2 0 1).on m = (m', asw ok) ∧ Gw m' γ' ow (S.set i st') (cc + 1) ∧ γ'.ch = γ.ch ∧ (k + 1 = γ.K → γ'.dn = true) ∧ (k + 1 ≠ γ.K → γ'.dn = γ.dn) := by
  obtain ⟨y1, y2, y3, y4⟩ := h.chn.hold _ p hk
  by_cases hb : k + 1 = γ.K ∧ γ.dn = false
  · rw [if_pos hb] at y2
    obtain ⟨m', e, q1, q2, q3, q4, q5⟩ := swap_yes (n := 1) y2
    have keep : ∀ x, ow x ≠ .cs (k + 1) → m'.look x = m.look x := fun x hx => by
      rw [q1, if_neg fun e => hx (by rw [e]; exact y4)]
    have hle2 : γ.le ⟨γ.ch, true, γ.cw⟩ := ⟨fun _ _ h => h, fun k' p' hp' e => ⟨e, fun _ => rfl, id⟩⟩
    refine ⟨m', true, ⟨γ.ch, true, γ.cw⟩, by simp only [Qn.on, e]; rfl, h.next hi (q2 h.tidy) q4 q5 (by rw [hp, hn, q3]) (by rw [hp]) ⟨h.chn.ne, fun p hp => ?_, fun k' p' hp' => ?_, ?_, .inl (hw hb.1), fun _ => rfl, h.chn.o3, h.chn.o4⟩ hle2 (fun j _ x hx ho => ⟨keep x fun e => ?_, rfl⟩) (hc _ _) (fun v e => .inl (by rw [← hv]; exact e)), rfl, fun _ => rfl, fun e => absurd hb.1 e⟩
    · rw [keep 3 (by rw [h.chn.o3]; exact fun e => (by cases e))]
      exact h.chn.tp p hp
    · obtain ⟨z1, z2, z3, z4⟩ := h.chn.hold k' p' hp'
      refine ⟨by rw [keep _ (by rw [z3]; exact fun e => (by cases e))]; exact z1, ?_, z3, z4⟩
      rw [if_neg fun e => (by cases e.2)]
      by_cases ek : k' = k + 1
      · subst ek
        rw [hk] at hp'
        cases hp'
        rw [q1, if_pos rfl]
      · rw [keep _ (by rw [z4]; exact fun e => (by cases e; exact ek rfl)), z2, if_neg fun e => ek (e.1.trans hb.1.symm)]
    · rw [keep 4 (by rw [h.chn.o4]; exact fun e => (by cases e))]
      exact h.chn.cl
    · rw [e] at ho; rcases ho with ho | ho <;> cases ho
  · rw [if_neg hb] at y2
    have e := swap_no (o := 0) (n := 1) y2 (by decide)
    refine ⟨m.more 1, false, γ, by simp only [Qn.on, e]; rfl, h.read hi hp hn hv (hc _ _), rfl, fun e2 => ?_, fun _ => rfl⟩
    cases hd : γ.dn with
    | true => rfl
    | false => exact absurd ⟨e2, hd⟩ hb
/-- A new handle. -/
theorem Gw.alloc (h : Gw m γ ow S cc) (hcc : cc ≤ 15000) (hi : S[i]? = some st) (x : Held) (hx : x.busy = true) (who : Who) (st' : Int → Stg) (hp : ∀ t, (st' t).pub = st.pub) (hn : ∀ t, (st' t).npr = st.npr + 1) (hv : ∀ t, (st' t).ver = st.ver)
    (hc : ∀ m' ow' t, m'.look t = some x → ow' t = who → KeepP i m m' ow ow' → Cond m' γ ow' i (st' t)) :
    ∃ m' t ow', (Qn.alloc x).on m = (m', aw t) ∧ Gw m' γ ow' (S.set i (st' t)) (cc + 1) := by
  have hpl := tot_le Stg.pub 1 pub_le S
  have hnl := tot_le Stg.npr 2 npr_le S
  have hf := h.few
  obtain ⟨m', t, e, n1, q1, t1, l1, c1, k1, -⟩ := alloc_yes h.tidy (by have := h.cnt; omega) (by have := h.live; have := h.len; omega) (by have := h.len; omega) x hx
  have keep : ∀ y, (m.look y).isSome = true → m'.look y = m.look y ∧ (if y = t then who else ow y) = ow y := fun y hy => by
    have : y ≠ t := fun e => by rw [e, n1] at hy; cases hy
    rw [q1, if_neg this, if_neg this]
    exact ⟨rfl, rfl⟩
  have kp : ∀ j, KeepP j m m' ow (fun y => if y = t then who else ow y) := fun j y hy _ => keep y hy
  refine ⟨m', t, fun y => if y = t then who else ow y, by simp only [Qn.on, e]; rfl, h.next hi t1 c1 k1 (by rw [hp, hn, l1]; push_cast; omega) (by rw [hp]) ⟨h.chn.ne, fun p hp => ?_, fun k' p' hp' => ?_, ?_, h.chn.cw, h.chn.k0, ?_, ?_⟩ (Gs.le.refl γ) (fun j _ => kp j) (hc _ _ _ (by rw [q1, if_pos rfl]) (by simp) (kp i)) (fun v e => .inl (by rw [← hv t]; exact e))⟩
  · have := h.chn.tp p hp
    rw [(keep 3 (by rw [this]; rfl)).1]; exact this
  · obtain ⟨z1, z2, z3, z4⟩ := h.chn.hold k' p' hp'
    have r1 := keep p'.1 (by rw [z1]; rfl)
    have r2 := keep p'.2 (by rw [z2]; rfl)
    exact ⟨r1.1.trans z1, r2.1.trans z2, r1.2.trans z3, r2.2.trans z4⟩
  · rw [(keep 4 (by rw [h.chn.cl]; rfl)).1]; exact h.chn.cl
  · obtain ⟨p, hp⟩ := h.chn.last
    exact (keep 3 (by rw [h.chn.tp p hp]; rfl)).2.trans h.chn.o3
  · exact (keep 4 (by rw [h.chn.cl]; rfl)).2.trans h.chn.o4
/-- A handle of one's own is given back. -/
theorem Gw.free (h : Gw m γ ow S cc) (hi : S[i]? = some st) {t : Int} {x : Held} (hl : m.look t = some x) (ho : ow t = .ps i ∨ ow t = .pg i) (st' : Stg) (hp : st'.pub = st.pub) (hn : st'.npr + 1 = st.npr) (hv : st'.ver = st.ver)
    (hc : ∀ m', (∀ y, y ≠ t → m'.look y = m.look y) → Cond m' γ ow i st') :
    ∃ m', (Qn.free t).on m = (m', asw false) ∧ Gw m' γ ow (S.set i st') (cc + 1) := by
  obtain ⟨m', e, q1, t1, l1, c1, k1⟩ := free_yes h.tidy hl
  have keep : ∀ y, y ≠ t → m'.look y = m.look y := fun y hy => by rw [q1, if_neg hy]
  have kow : ∀ y, ow y ≠ .ps i → ow y ≠ .pg i → m'.look y = m.look y := fun y h1 h2 => keep y fun e => by
    rw [e] at h1 h2
    exact ho.elim h1 h2
  refine ⟨m', by simp only [Qn.on, e]; rfl, h.next hi t1 c1 k1 (by rw [hp, l1]; omega) (by rw [hp]) ⟨h.chn.ne, fun p hp => ?_, fun k' p' hp' => ?_, ?_, h.chn.cw, h.chn.k0, h.chn.o3, h.chn.o4⟩ (Gs.le.refl γ) (fun j hj x _ hx => ⟨?_, rfl⟩) (hc _ keep) (fun v e => .inl (by rw [← hv]; exact e))⟩
  · rw [kow 3 (by rw [h.chn.o3]; exact fun e => (by cases e)) (by rw [h.chn.o3]; exact fun e => (by cases e))]
    exact h.chn.tp p hp
  · obtain ⟨z1, z2, z3, z4⟩ := h.chn.hold k' p' hp'
    exact ⟨by rw [kow _ (by rw [z3]; exact fun e => (by cases e)) (by rw [z3]; exact fun e => (by cases e))]; exact z1, by rw [kow _ (by rw [z4]; exact fun e => (by cases e)) (by rw [z4]; exact fun e => (by cases e))]; exact z2, z3, z4⟩
  · rw [kow 4 (by rw [h.chn.o4]; exact fun e => (by cases e)) (by rw [h.chn.o4]; exact fun e => (by cases e))]
    exact h.chn.cl
  · refine kow x ?_ ?_ <;> rcases hx with e | e <;> rw [e] <;> intro e2 <;> cases e2 <;> exact hj rfl
/-- Publishing. -/
theorem Gw.publish (h : Gw m γ ow S cc) {k : Nat} {hd s n t g : Int} (hi : S[i]? = some (.sh k hd s n t g)) (hk : k = γ.K) :
    ∃ m' γ' ow', (Qn.swap 3 hd g).on m = (m', asw true) ∧ Gw m' γ' ow' (S.set i (.sp k hd s t g)) (cc + 1) ∧ n = (k : Int) := by
  obtain ⟨⟨⟨c1, c2⟩, -⟩, c3, c4⟩ := h.cond i _ hi
  obtain ⟨c5, rfl⟩ := c2 hk
  have htp := h.chn.tp (hd, s) (by rw [← hk]; exact c1)
  obtain ⟨m', e, q1, q2, q3, q4, q5⟩ := swap_yes (n := g) htp
  have keep : ∀ x, ow x ≠ .top → m'.look x = m.look x := fun x hx => by
    rw [q1, if_neg fun e => hx (by rw [e]; exact h.chn.o3)]
  have hne := h.chn.ne
  have hK' : (Gs.mk (γ.ch ++ [(g, t)]) false γ.cw).K = γ.K + 1 := by
    unfold Gs.K; simp; omega
  obtain ⟨ow', how⟩ : ∃ ow' : Int → Who, ow' = fun x => if x = g then .ch (k + 1) else if x = t then .cs (k + 1) else ow x := ⟨_, rfl⟩
  have hgt : t ≠ g := fun e => by
    have := c3.2
    rw [e, c4.2] at this
    cases this
  have hg : ow' g = .ch (k + 1) := by rw [how]; simp
  have ht : ow' t = .cs (k + 1) := by rw [how]; simp [hgt]
  have hoth : ∀ x, ow x ≠ .ps i → ow x ≠ .pg i → ow' x = ow x := fun x h1 h2 => by
    rw [how]
    have e1 : x ≠ g := fun e => h2 (by rw [e]; exact c4.2)
    have e2 : x ≠ t := fun e => h1 (by rw [e]; exact c3.2)
    simp only [if_neg e1, if_neg e2]
  have hat : ∀ (k' : Nat) (p : Int × Int), (γ.ch ++ [(g, t)])[k']? = some p → γ.ch[k']? = some p ∨ (k' = k + 1 ∧ p = (g, t)) := fun k' p hp => by
    rw [List.getElem?_append] at hp
    split at hp
    · exact .inl hp
    · have hj := (List.getElem?_eq_some_iff.1 hp).1
      simp at hj
      have e0 : k' - γ.ch.length = 0 := by omega
      rw [e0] at hp
      simp at hp
      exact .inr ⟨by rw [hk]; unfold Gs.K; omega, hp.symm⟩
  have hnew : (γ.ch ++ [(g, t)])[k + 1]? = some (g, t) := by
    rw [List.getElem?_append, if_neg (by rw [hk]; unfold Gs.K; omega)]
    have e0 : k + 1 - γ.ch.length = 0 := by rw [hk]; unfold Gs.K; omega
    rw [e0]; rfl
  have hle : γ.le ⟨γ.ch ++ [(g, t)], false, γ.cw⟩ := ⟨fun k' p hp => by
    show (γ.ch ++ [(g, t)])[k']? = some p
    rw [List.getElem?_append, if_pos (List.getElem?_eq_some_iff.1 hp).1]; exact hp, fun k' p hp e => by
    have := Gs.at_le hp
    rw [hK'] at e
    omega⟩
  refine ⟨m', ⟨γ.ch ++ [(g, t)], false, γ.cw⟩, ow', by simp only [Qn.on, e]; rfl, h.next hi (q2 h.tidy) q4 q5 (by rw [q3]; simp only [Stg.pub, Stg.npr]; omega) (by simp only [Stg.pub, List.length_append, List.length_cons, List.length_nil]) ⟨by simp, fun p hp => ?_, fun k' p' hp' => ?_, ?_, .inr ⟨rfl, ?_⟩, fun e => ?_, ?_, ?_⟩ hle (fun j hj x _ hx => ⟨keep x ?_, hoth x ?_ ?_⟩) hnew (fun v e => .inr ?_), rfl⟩
  · rw [hK', ← hk] at hp
    have hp2 : (γ.ch ++ [(g, t)])[k + 1]? = some p := hp
    rw [hnew] at hp2
    cases hp2
    rw [q1, if_pos rfl]
  · rw [hK']
    rcases hat k' p' hp' with hp2 | ⟨rfl, rfl⟩
    · obtain ⟨z1, z2, z3, z4⟩ := h.chn.hold k' p' hp2
      have hlt := Gs.at_le hp2
      rw [if_neg fun e => by omega]
      rw [if_neg fun e => by rw [c5] at e; cases e.2] at z2
      exact ⟨by rw [keep _ (by rw [z3]; exact fun e => (by cases e))]; exact z1, by rw [keep _ (by rw [z4]; exact fun e => (by cases e))]; exact z2, by rw [hoth _ (by rw [z3]; exact fun e => (by cases e)) (by rw [z3]; exact fun e => (by cases e))]; exact z3, by rw [hoth _ (by rw [z4]; exact fun e => (by cases e)) (by rw [z4]; exact fun e => (by cases e))]; exact z4⟩
    · rw [if_pos ⟨by omega, rfl⟩]
      exact ⟨by rw [keep _ (by rw [c4.2]; exact fun e => (by cases e))]; exact c4.1, by rw [keep _ (by rw [c3.2]; exact fun e => (by cases e))]; exact c3.1, hg, ht⟩
  · rw [keep 4 (by rw [h.chn.o4]; exact fun e => (by cases e))]
    exact h.chn.cl
  · rw [hK']
    rcases h.chn.cw with e2 | e2
    · show γ.cw + 1 = _; omega
    · rw [c5] at e2; cases e2.1
  · rw [hK'] at e; omega
  · rw [hoth 3 (by rw [h.chn.o3]; exact fun e => (by cases e)) (by rw [h.chn.o3]; exact fun e => (by cases e))]; exact h.chn.o3
  · rw [hoth 4 (by rw [h.chn.o4]; exact fun e => (by cases e)) (by rw [h.chn.o4]; exact fun e => (by cases e))]; exact h.chn.o4
  · rcases hx with e | e <;> rw [e] <;> intro e2 <;> cases e2
  · rcases hx with e | e <;> rw [e] <;> intro e2 <;> cases e2 <;> exact hj rfl
  · rcases hx with e | e <;> rw [e] <;> intro e2 <;> cases e2 <;> exact hj rfl
  · simp only [Stg.ver, Option.some.injEq] at e
    rw [hK']; omega
theorem Gw.trans (h : Gw m γ ow S cc) (hcc : cc ≤ 15000) (hi : S[i]? = some st) (hz : ∀ v, st ≠ .sz v) :
    ∃ m' a γ' ow' st', st.q.on m = (m', a) ∧ Gw m' γ' ow' (S.set i st') (cc + 1) ∧ mu γ' st' < mu γ st ∧ Nx st a st' := by
  have hc := h.cond i st hi
  cases st with
  | sz v => exact absurd rfl (hz v)
  | s0 =>
    obtain ⟨⟨hd, s⟩, hp⟩ := h.chn.last
    have e := look_word (h.chn.tp _ hp)
    refine ⟨m.more 1, aw hd, γ, ow, .sb γ.K hd, by simp only [Stg.q, Qn.on, e, ask_more1]; rfl, h.read hi rfl rfl rfl ⟨s, hp⟩, ?_, .inl ⟨rfl, fun v e => (by cases e)⟩⟩
    simp only [mu, muC, costA, if_true]
    split <;> omega
  | sb k hd =>
    obtain ⟨s, hp⟩ := hc
    have e := look_load (h.chn.hold k _ hp).1
    exact ⟨m.more 1, ad (dk k s), γ, ow, .sc k hd s, by simp only [Stg.q, Qn.on, e, ask_more1]; rfl, h.read hi rfl rfl rfl hp, by simp only [mu]; omega, .inl ⟨rfl, fun v e => (by cases e)⟩⟩
  | sc k hd s =>
    have hp : γ.ch[k]? = some (hd, s) := hc
    have hl := (h.chn.hold k _ hp).2.1
    by_cases hb : k = γ.K ∧ γ.dn = false
    · rw [if_pos hb] at hl
      have e := look_word hl
      cases k with
      | zero =>
        have := h.chn.k0 hb.1.symm
        rw [hb.2] at this; cases this
      | succ k =>
        refine ⟨m.more 1, aw 0, γ, ow, .d1 k hd s, by simp only [Stg.q, Qn.on, e, ask_more1]; rfl, h.read hi rfl rfl rfl hp, ?_, .inl ⟨rfl, fun v e => (by cases e)⟩⟩
        simp only [mu, muC, muX, if_pos hb.1, hb.2]
        decide
    · rw [if_neg hb] at hl
      have e := look_word hl
      have hd2 : k = γ.K → γ.dn = true := fun ek => by
        cases hd : γ.dn with
        | true => rfl
        | false => exact absurd ⟨ek, hd⟩ hb
      refine ⟨m.more 1, aw 1, γ, ow, .se k hd s, by simp only [Stg.q, Qn.on, e, ask_more1]; rfl, h.read hi rfl rfl rfl ⟨hp, hd2⟩, ?_, .inl ⟨rfl, fun v e => (by cases e)⟩⟩
      simp only [mu, muC]
      by_cases ek : k = γ.K
      · rw [if_pos ek, if_pos ek, if_pos (hd2 ek)]; omega
      · rw [if_neg ek, if_neg ek]; omega
  | d1 k hd s =>
    obtain ⟨m', ok, γ', e, hg, e1, e2⟩ := h.cellswap hi (p := (hd, s)) hc (fun ok => .d2 k hd s ok) (fun _ => rfl) (fun _ => rfl) (fun _ => rfl) (fun m' γ' ok e3 e4 => ⟨by rw [e3]; exact hc, e4⟩)
    refine ⟨m', asw ok, γ', ow, .d2 k hd s ok, e, hg, ?_, .inl ⟨rfl, fun v e => (by cases e)⟩⟩
    have eK : γ'.K = γ.K := by unfold Gs.K; rw [e1]
    simp only [mu, muX, costA, eK, e2]
    omega
  | d2 k hd s ok =>
    obtain ⟨c1, c2⟩ := hc
    obtain ⟨m', ok2, γ', e, hg, e1, e2, e3⟩ := h.statswap hi (p := (hd, s)) c1 c2 .s0 rfl rfl rfl (fun _ _ => trivial)
    refine ⟨m', asw ok2, γ', ow, .s0, e, hg, ?_, .inr (.inl ⟨rfl, fun N => end_d2 N k hd s ok ok2⟩)⟩
    simp only [mu, muX]
    by_cases ek : k + 1 = γ.K
    · rw [if_pos ek]
      simp only [costA, e2 ek, if_true]; omega
    · rw [if_neg ek]
      simp only [costA, e3 ek]; omega
  | se k hd s =>
    obtain ⟨c1, c2⟩ := hc
    have e := look_word h.chn.cl
    refine ⟨m.more 1, aw γ.cw, γ, ow, .sf k hd s γ.cw, by simp only [Stg.q, Qn.on, e, ask_more1]; rfl, h.read hi rfl rfl rfl ⟨⟨c1, fun ek => ⟨c2 ek, ?_⟩⟩, by omega, by have := h.K_le; have := h.chn.cw; omega⟩, ?_, .inl ⟨rfl, fun v e => (by cases e)⟩⟩
    · rcases h.chn.cw with e2 | e2
      · omega
      · rw [c2 ek] at e2; cases e2.1
    · simp only [mu]
      split <;> omega
  | sf k hd s n =>
    obtain ⟨m', t, ow', e, hg⟩ := h.alloc hcc hi (.word 0) rfl (.ps i) (fun t => .sg k hd s n t) (fun _ => rfl) (fun _ => rfl) (fun _ => rfl) (fun m' ow' t e1 e2 _ => ⟨hc, e1, e2⟩)
    refine ⟨m', aw t, γ, ow', .sg k hd s n t, e, hg, ?_, .inl ⟨rfl, fun v e => (by cases e)⟩⟩
    simp only [mu]
    split <;> omega
  | sg k hd s n t =>
    obtain ⟨m', g, ow', e, hg⟩ := h.alloc hcc hi (.desc (dg k n t)) rfl (.pg i) (fun g => .sh k hd s n t g) (fun _ => rfl) (fun _ => rfl) (fun _ => rfl) (fun m' ow' g e1 e2 hk => ⟨hc.1, hc.2.keep hk, e1, e2⟩)
    refine ⟨m', aw g, γ, ow', .sh k hd s n t g, e, hg, ?_, .inl ⟨rfl, fun v e => (by cases e)⟩⟩
    simp only [mu]
    split <;> omega
  | sh k hd s n t g =>
    by_cases ek : k = γ.K
    · obtain ⟨m', γ', ow', e, hg, rfl⟩ := h.publish hi ek
      refine ⟨m', asw true, γ', ow', .sp k hd s t g, e, hg, ?_, .inl ⟨rfl, fun v e => (by cases e)⟩⟩
      simp only [mu, if_pos ek]; omega
    · obtain ⟨⟨⟨c1, c2⟩, -⟩, c3, c4⟩ := hc
      obtain ⟨⟨hl, sl⟩, hp⟩ := h.chn.last
      have hne : hl ≠ hd := fun e => by
        have h1 := (h.chn.hold _ _ hp).2.2.1
        have h2 := (h.chn.hold _ _ c1).2.2.1
        simp only at h1 h2
        rw [e, h2] at h1
        cases h1; exact ek rfl
      have e := swap_no (o := hd) (n := g) (h.chn.tp _ hp) hne
      refine ⟨m.more 1, asw false, γ, ow, .u1 k hd s n t g, by simp only [Stg.q, Qn.on, e, ask_more1]; rfl, h.read hi rfl rfl rfl ⟨c3, c4⟩, ?_, .inl ⟨rfl, fun v e => (by cases e)⟩⟩
      simp only [mu, if_neg ek]; omega
  | u1 k hd s n t g =>
    have e := look_load hc.2.1
    exact ⟨m.more 1, ad (dg k n t), γ, ow, .u2 k hd s n t g, by simp only [Stg.q, Qn.on, e, ask_more1]; rfl, h.read hi rfl rfl rfl hc, by simp only [mu]; omega, .inl ⟨rfl, fun v e => (by cases e)⟩⟩
  | u2 k hd s n t g =>
    obtain ⟨c3, c4⟩ := hc
    have hgt : g ≠ t := fun e => by
      have := c3.2
      rw [← e, c4.2] at this
      cases this
    obtain ⟨m', e, hg⟩ := h.free hi c3.1 (.inl c3.2) (.u3 k hd s n t g) rfl rfl rfl (fun m' hk => ⟨(hk g hgt).trans c4.1, c4.2⟩)
    exact ⟨m', asw false, γ, ow, .u3 k hd s n t g, e, hg, by simp only [mu]; omega, .inl ⟨rfl, fun v e => (by cases e)⟩⟩
  | u3 k hd s n t g =>
    obtain ⟨m', e, hg⟩ := h.free hi hc.1 (.inr hc.2) .s0 rfl rfl rfl (fun m' _ => trivial)
    exact ⟨m', asw false, γ, ow, .s0, e, hg, by simp only [mu]; omega, .inr (.inl ⟨rfl, fun N => end_u3 N k hd s n t g⟩)⟩
  | sp k hd s t g =>
    have hp : γ.ch[k + 1]? = some (g, t) := hc
    have e := look_load (h.chn.hold _ _ hp).1
    exact ⟨m.more 1, ad (dg k k t), γ, ow, .p1 k hd s t g, by simp only [Stg.q, Qn.on, e, ask_more1]; rfl, h.read hi rfl rfl rfl hp, by simp only [mu]; omega, .inl ⟨rfl, fun v e => (by cases e)⟩⟩
  | p1 k hd s t g =>
    obtain ⟨m', ok, γ', e, hg, e1, e2⟩ := h.cellswap hi (p := (g, t)) hc (fun ok => .p2 k hd s t g ok) (fun _ => rfl) (fun _ => rfl) (fun _ => rfl) (fun m' γ' ok e3 e4 => ⟨by rw [e3]; exact hc, e4⟩)
    exact ⟨m', asw ok, γ', ow, .p2 k hd s t g ok, e, hg, by simp only [mu]; omega, .inl ⟨rfl, fun v e => (by cases e)⟩⟩
  | p2 k hd s t g ok =>
    obtain ⟨c1, c2⟩ := hc
    obtain ⟨m', ok2, γ', e, hg, e1, e2, e3⟩ := h.statswap hi (p := (g, t)) c1 c2 (.sz (k + 1)) rfl rfl rfl (fun _ _ => trivial)
    exact ⟨m', asw ok2, γ', ow, .sz (k + 1), e, hg, by simp only [mu]; omega, .inr (.inr ⟨k + 1, rfl, fun N => end_p2 N k (by have := h.K_le; have := Gs.at_le c1; omega) hd s t g ok ok2⟩)⟩
end
end Go.Proofs.YteiikkkcjpfapaaDoor
/- A step of one of them out of its log. Conditions: at most 15000 asks. -/
namespace Go.Proofs.YteiikkkcjpfapaaDoor
open Go.RowKit Go.Op
set_option maxRecDepth 100000

theorem rest_app {α : Type} : ∀ (l l2 : List An) (p : Pr α), p.goes l → (p.rest l).goes l2 → p.goes (l ++ l2) ∧ p.rest (l ++ l2) = (p.rest l).rest l2
  | [], l2, p, _, h => by
    rw [rest_nil] at h ⊢
    exact ⟨h, rfl⟩
  | a :: l, l2, .ret x, h, _ => by simp [Pr.goes] at h
  | a :: l, l2, .ask q k, h, h2 => by
    simp only [Pr.goes] at h
    simp only [Pr.rest] at h2
    exact rest_app l l2 (k a) h h2
/-- Where one is, by its log. -/
structure Lg (F : Nat) (told : List An) (st : Stg) : Prop where
  ex : ∃ pre n, told = pre ++ st.cur ∧ (addP (F + 1)).goes pre ∧ (addP (F + 1)).rest pre = aA (addP n) ∧ F ≤ n + pre.length
  live : ∀ v, st ≠ .sz v
theorem Lg.start (F : Nat) : Lg F [] .s0 := ⟨⟨[], F, rfl, by simp [Pr.goes], by rw [rest_nil]; rfl, by simp⟩, fun v e => (by cases e)⟩
theorem Lg.step {F : Nat} {s : Pt} {m : M} {γ : Gs} {ow : Int → Who} {S : List Stg} {cc : Int} {i : Nat} {st : Stg} (h : Gw m γ ow S cc) (hcc : cc ≤ 15000) (hi : S[i]? = some st) (hs : Fresh s) (hl : Lg F s.told st) (hF : s.told.length < F) :
    ∃ o s' m' γ' ow' st', (addP (F + 1)).run s m = (o, s', m') ∧ Gw m' γ' ow' (S.set i st') (cc + 1) ∧ mu γ' st' < mu γ st ∧ ((o = none ∧ Lg F s'.told st' ∧ s'.told.length = s.told.length + 1) ∨ ∃ v : Nat, o = some (v : Int) ∧ st' = .sz v) := by
  obtain ⟨pre, n, e1, e2, e3, e4⟩ := hl.ex
  obtain ⟨⟨k, hk⟩, hg⟩ := ask_at (addP n) st hl.live (h.small hi)
  obtain ⟨r1, r2⟩ := rest_app pre st.cur (addP (F + 1)) e2 (by rw [e3]; exact hg)
  rw [← e1] at r1 r2
  rw [e3, hk] at r2
  obtain ⟨m', a, γ', ow', st', t1, t2, t3, t4⟩ := h.trans hcc hi hl.live
  have sn := Pr.rest_snoc a st.cur (aA (addP n)) hg hk
  have sn2 := Pr.rest_snoc a s.told (addP (F + 1)) r1 r2
  have hpl : s.told.length = pre.length + st.cur.length := by rw [e1, List.length_append]
  rcases t4 with ⟨u1, u2⟩ | ⟨rfl, u2⟩ | ⟨v, rfl, u2⟩
  · obtain ⟨⟨k2, hk2⟩, hg2⟩ := ask_at (addP n) st' u2 (t2.small (List.getElem?_set_self (List.getElem?_eq_some_iff.1 hi).1))
    rw [u1] at hk2
    have hka : k a = .ask st'.q k2 := by rw [← sn.1]; exact hk2
    have hr := Pr.run_more (m := m) (q2 := st'.q) (k2 := k2) hs r1 r2 (by rw [t1]; exact hka)
    rw [t1] at hr
    exact ⟨_, _, _, γ', ow', st', hr, t2, t3, .inl ⟨rfl, ⟨⟨pre, n, by simp only; rw [u1, e1, List.append_assoc], e2, e3, e4⟩, u2⟩, by simp⟩⟩
  · obtain ⟨n', rfl⟩ : ∃ n', n = n' + 1 := ⟨n - 1, by omega⟩
    have hka : k a = aA (addP n') := by rw [← sn.1, u2]; rfl
    obtain ⟨⟨k2, hk2⟩, -⟩ := ask_at (addP n') .s0 (fun v e => by cases e) trivial
    have hk3 : aA (addP n') = .ask (Stg.q .s0) k2 := by rw [← hk2]; exact (rest_nil _).symm
    have hr := Pr.run_more (m := m) (q2 := Stg.q .s0) (k2 := k2) hs r1 r2 (by rw [t1]; exact hka.trans hk3)
    rw [t1] at hr
    exact ⟨_, _, _, γ', ow', .s0, hr, t2, t3, .inl ⟨rfl, ⟨⟨s.told ++ [a], n', by simp [Stg.cur], sn2.2, by rw [sn2.1]; exact hka, by simp; omega⟩, fun v e => (by cases e)⟩, by simp⟩⟩
  · have hka : k a = .ret (v : Int) := by rw [← sn.1]; exact u2 _
    have hr := Pr.run_last (m := m) (b := (v : Int)) hs r1 r2 (by rw [t1]; exact hka)
    rw [t1] at hr
    exact ⟨_, _, _, γ', ow', .sz v, hr, t2, t3, .inr ⟨v, rfl, rfl⟩⟩
theorem Gw.more {m : M} {γ : Gs} {ow : Int → Who} {S : List Stg} {cc : Int} (h : Gw m γ ow S cc) (k : Nat) : Gw (m.more k) γ ow S (cc + k) :=
  ⟨tidy_more h.tidy k, h.len, by have := h.cnt; simp only [M.more]; omega, h.live, h.few, h.chl, h.chn.same fun x _ => more_look m k x, fun i st hi => (h.cond i st hi).keep (Gs.le.refl γ) (keepP_same (fun x _ => more_look m k x) i), h.ver, h.uniq⟩
theorem more2 (m : M) (a b : Nat) : (m.more a).more b = m.more (a + b) := by simp only [M.more]; congr 1; push_cast; omega
theorem go_versC {m : M} {γ : Gs} {ow : Int → Who} (h : Chn m γ ow) : (versionP 3).go m = ((if γ.dn = true then (γ.K : Int) else ((γ.K - 1 : Nat) : Int), 0), m.more 3) := by
  obtain ⟨⟨hd, s⟩, hp⟩ := h.last
  obtain ⟨z1, z2, -, -⟩ := h.hold _ _ hp
  have e1 := look_word (h.tp _ hp)
  have e2 := look_load (m := m.more 1) ((more_look m 1 hd).trans z1)
  have e3 := look_word (m := m.more 2) ((more_look m 2 s).trans z2)
  have e4 : heldR ⟨Held.desc (dk γ.K s), 0, false, 0⟩ = (dk γ.K s, 0) := rfl
  cases hd2 : γ.dn with
  | true =>
    rw [hd2, if_neg (fun e => by cases e.2)] at e3
    simp only [versionP, lastP, heldP, Pr.go, Pr.bind, Qn.on, e1, ask_more1, if_true, e2, e4, more2, Nat.reduceAdd, dk_st, e3, dk_ver]
    rfl
  | false =>
    rw [hd2, if_pos ⟨rfl, rfl⟩] at e3
    simp only [versionP, lastP, heldP, Pr.go, Pr.bind, Qn.on, e1, ask_more1, if_true, e2, e4, more2, Nat.reduceAdd, dk_st, e3, dk_bf]
    rfl
end Go.Proofs.YteiikkkcjpfapaaDoor
/- What add does by a port that keeps answers: Help without a bound on swaps, and the loop. Conditions: at most 600000 asks. -/
namespace Go.FreeW
open Go Go.RowKit Go.Free Go.Op
theorem d_build3 {P : Program} {effs : List Nat} {ops : Array Oper} {S : List Bool → (Nat → Value) → World → Prop} {D : List PanicEntry → World → Prop} {i : Nat} (o0 : Oper) (ho : ops[i]? = some o0) {T : TypeId} {x y z : Operand} {k l n : Nat} (hop : o0.op = .build T #[(k, x), (l, y), (n, z)]) {vx vy vz v : (Nat → Value) → Value} (h : ∀ β w, (Instr.build T #[(k, vx β), (l, vy β), (n, vz β)]).run P w = .ok (v β) w) : Does P effs ops S D ⟨i, fun β => [vx β, vy β, vz β], v, .pure⟩ := by
  rintro o h1 β ρ h2 w
  rw [ho] at h1
  cases h1
  rw [hop] at h2
  simp [Op.operands] at h2
  simp [execOp, hop, h2.1, h2.2.1, h2.2.2, h]
end Go.FreeW
namespace Go.Proofs.YteiikkkcjpfapaaDoor
open Go.RowKit Go.Op
set_option maxRecDepth 100000

/-- How often a port may be asked till it stops who asks. -/
def left (s : Pt) : Nat := (s.told.length - s.place) + (if s.spent = true then 0 else 1)
structure Kp (C : Int) (s : Pt) (m : M) : Prop where
  keeps : s.keeps = true
  le : s.place ≤ s.told.length
  cnt : m.count + (if s.spent = true then 0 else 1) ≤ C
theorem Kp.max {C : Int} {s : Pt} {m : M} (h : Kp C s m) : m.count ≤ C := by have := h.cnt; split at this <;> omega
theorem Kp.ask {C : Int} {s : Pt} {m : M} (h : Kp C s m) (q : Qn) : Kp C (s.ask q m).2.1 (s.ask q m).2.2 ∧ ((s.ask q m).1.isSome = true → left (s.ask q m).2.1 + 1 = left s) := by
  have hle := h.le
  cases hx : s.told[s.place]? with
  | some a =>
    rw [Pt.ask_told hx]
    have := (List.getElem?_eq_some_iff.1 hx).1
    exact ⟨⟨h.keeps, by simp only; omega, h.cnt⟩, fun _ => by unfold left; simp only; omega⟩
  | none =>
    have hn := List.getElem?_eq_none_iff.1 hx
    cases hs : s.spent with
    | true => rw [Pt.ask_halt hx hs]; exact ⟨⟨h.keeps, hle, by have := h.cnt; rw [hs] at this; simp only [hs]; exact this⟩, fun e => (by cases e)⟩
    | false =>
      rw [Pt.ask_keep hx hs h.keeps]
      have hc := on_count q m
      have := h.cnt
      rw [hs] at this
      refine ⟨⟨h.keeps, by simp; omega, by simp at this ⊢; omega⟩, fun _ => ?_⟩
      unfold left
      simp [hs]
theorem Pr.run_kp {α : Type} {C : Int} : ∀ (p : Pr α) (s : Pt) (m : M), Kp C s m → Kp C (p.run s m).2.1 (p.run s m).2.2 ∧ ((p.run s m).1.isSome = true → left (p.run s m).2.1 ≤ left s)
  | .ret a, s, m, h => ⟨h, fun _ => Nat.le_refl _⟩
  | .ask q k, s, m, h => by
    obtain ⟨h1, h2⟩ := h.ask q
    rw [Pr.run_ask]
    generalize s.ask q m = u at h1 h2 ⊢
    obtain ⟨_ | a, s', m'⟩ := u
    · exact ⟨h1, fun e => (by cases e)⟩
    · obtain ⟨h3, h4⟩ := Pr.run_kp (k a) s' m' h1
      exact ⟨h3, fun e => by have := h4 e; have := h2 rfl; simp only at *; omega⟩
theorem Pr.run_lt {α : Type} {C : Int} {q : Qn} {k : An → Pr α} {s s' : Pt} {m m' : M} {a : α} (h : Kp C s m) (ho : (Pr.ask q k).run s m = (some a, s', m')) : Kp C s' m' ∧ left s' < left s := by
  obtain ⟨h1, h2⟩ := h.ask q
  rw [Pr.run_ask] at ho
  generalize s.ask q m = u at h1 h2 ho
  obtain ⟨_ | x, s1, m1⟩ := u
  · cases ho
  · obtain ⟨h3, h4⟩ := Pr.run_kp (k x) s1 m1 h1
    simp only at ho
    rw [ho] at h3 h4
    exact ⟨h3, by have := h4 rfl; have := h2 rfl; simp only at *; omega⟩
theorem Pr.run_le {α : Type} {C : Int} {p : Pr α} {s s' : Pt} {m m' : M} {a : α} (h : Kp C s m) (ho : p.run s m = (some a, s', m')) : Kp C s' m' ∧ left s' ≤ left s := by
  obtain ⟨h1, h2⟩ := Pr.run_kp p s m h
  rw [ho] at h1 h2
  exact ⟨h1, h2 rfl⟩
def sliceLen : Value → Nat
  | .slice _ n _ => n
  | _ => 0
def leftAt (w : World) (pb po : Nat) : Nat := ((match w.cell? ⟨pb, po + 2, none⟩ with
    | some v => sliceLen v
    | none => 0) - (match w.cell? ⟨pb, po + 3, none⟩ with
    | some v => (intOf v).toNat
    | none => 0)) + (match w.cell? ⟨pb, po + 5, none⟩ with
    | some (.bool true) => 0
    | _ => 1)
section
variable {w0 : World} {b c r pb po : Nat} {t t1 : Value} {G G1 : List (Nat × List Sw)} {w w1 : World} {m m1 : M} {s s1 : Pt}
theorem left_at (h : SysE w0 b c r pb po t G w m s) : leftAt w pb po = left s := by
  obtain ⟨m0, s0, h1, -, -, -, -, rfl⟩ := h
  have c := h1.pt.cells
  have e2 : sliceLen t = s0.told.length := by
    rcases h1.pt.own.2 with ⟨e, e2⟩ | ⟨g, cap, cur, e, _⟩
    · rw [e, e2]; rfl
    · rw [e]; rfl
  unfold leftAt left
  rw [c.c2, c.c3, c.c5]
  simp only [e2, intOf, Int.toNat_natCast]
  have e3 : s0.e.told.length = s0.told.length := by simp [Pt.e]
  rw [e3]
  show _ = s0.told.length - s0.place + (if s0.spent = true then 0 else 1)
  cases s0.spent <;> rfl
def HHeadK (C : Int) (w0 : World) (b c r pb po : Nat) (t : Value) (G : List (Nat × List Sw)) (w : World) (d : Ds) (s : Pt) (m : M) (i : Nat) (wr : World) : Prop :=
  ∃ t1 G1 m1 s1, Aft w0 b c r pb po t G w t1 G1 wr m1 s1 ∧ (helpL d.st d.sw).run s m = (helpL d.st (d.sw.drop i)).run s1 m1 ∧ i ≤ d.n ∧ Kp C s1 m1 ∧ DVar wr w.heap.size d ∧ Loc w0 b c r pb t1 G1 wr w.heap.size
set_option maxHeartbeats 1000000 in
theorem help_K {C : Int} (hC : C ≤ 700000) (h : SysE w0 b c r pb po t G w m s) (hk : Kp C s m) (d : Ds) (hd : d.In G) :
    Calls Tryd.prog 22 #[.pointer (some ⟨pb, po, none⟩), d.v] w fun e w' => Ev w0 b c r pb po t G w RInt ((helpP d).run s m) e w' := by
  have hb0 := (Below.refl w.heap.size w).alloc (Nat.le_refl _) d.obj
  have HH : Hid (HHeadK C w0 b c r pb po t G w d s m 0 (w.alloc d.obj)) := ⟨t, G, m, s, (Aft.refl h).later hb0, rfl, Nat.zero_le _, hk, dnewd w d, h.fresh d.obj⟩
  have HD := Lib.hid hd
  unfold Ds.v
  unfold Ds.obj at HH
  unfold helpP
  have hn2 : (d.n : Int) ≤ 1000000 := by have := hd.few; have := hd.n; omega
  clear h hb0 hd hk
  go_enter Tryd.func22, Tryd.ntmps22
  go_wp2_with fail
  go_loopw [14] (fun iv wr => ∃ i : Nat, iv = .int .i64 (i : Int) ∧ i ≤ d.n ∧ Hid (HHeadK C w0 b c r pb po t G w d s m i wr)) (fun iv _ => d.n - (intOf iv).toNat)
  case atStart => exact ⟨0, rfl, Nat.zero_le _, HH⟩
  case round =>
    obtain ⟨i, rfl, hi, hR⟩ := hrel
    clear HH
    obtain ⟨t1, G1, m1, s1, ha, hrun, -, hct, hv, hlo⟩ := hR.out
    have HA := Lib.hid ha
    have HRun := Lib.hid hrun
    have HC := Lib.hid hct
    have HV := Lib.hid hv
    have HLo := Lib.hid hlo
    have hz := hv.lt
    have hc1 : m1.count ≤ 900000 := by have := hct.max; omega
    by_cases hlt : i < d.n
    · have i1 : (i : Int) < (d.n : Int) := by omega
      have hsl : i < d.sw.length := by rw [← HD.out.n]; exact hlt
      obtain ⟨x, hx⟩ : ∃ x, d.sw[i]? = some x := ⟨_, List.getElem?_eq_getElem hsl⟩
      have hdrop : d.sw.drop i = x :: d.sw.drop (i + 1) := by
        rw [List.drop_eq_getElem_cons hsl]
        rw [List.getElem?_eq_getElem hsl] at hx
        cases hx; rfl
      obtain ⟨g, eg, hg⟩ : ∃ g, d.ad = some ⟨g, 0, none⟩ ∧ (g, d.sw) ∈ G := by
        rcases HD.out.row with e | e
        · rw [e] at hsl; simp at hsl
        · exact e
      have hat : SwAt wr g (i * 3) x := by
        obtain ⟨m0, s0, h1, -⟩ := ha.sys
        exact (h1.rows g _ (ha.gro.1 _ hg)).1.at_ i x hx
      have k0 := hat.1
      have k1 := hat.2.1
      have k2 := hat.2.2
      have hb2 := (Below.refl wr.heap.size wr).alloc (Nat.le_refl _) (.cells #[.int .i64 x.cell, .int .i64 x.old, .int .i64 x.new] 90)
      have hsw := eswap (ha.sys.later hb2) hc1 x.cell x.old x.new
      have HB2 := Lib.hid hb2
      have HDr := Lib.hid hdrop
      clear hR ha hrun hct hv hlo hsl hx hdrop hg hat hb2
      rw [eg]
      go_wp2_with fail
      refine hsw.mono ?_
      rintro e w2 hE
      have hac := HC.out.ask (.swap x.cell x.old x.new)
      rcases hE.cases with ⟨t2, G2, s2, m2, ho, rfl, ha⟩ | ⟨t2, G2, s2, m2, a, v, ho, rfl, rfl, ha⟩
      · have HE : Hid (Ev w0 b c r pb po t G w RInt ((helpL d.st d.sw).run s m) (Halt pb po) w2) := Ev.die (by rw [HRun.out, HDr.out, helpL_cons, Pr.run_ask, ho]) ((HA.out.later HB2.out).trans ha)
        clear hsw hE ho ha hac
        unfold Halt
        go_wp2
        exact ⟨rfl, HE.out⟩
      rw [ho] at hac
      have ha2 := (HA.out.later HB2.out).trans ha
      obtain ⟨v2, l2⟩ := ha.cells (HLo.out.same HB2.out.size) (HV.out.later HB2.out)
      by_cases herr : a.err = 0
      · have HH : Hid (HHeadK C w0 b c r pb po t G w d s m (i + 1) w2) := by
          refine ⟨t2, G2, m2, s2, ha2, ?_, by omega, ?_, v2, l2⟩
          · rw [HRun.out, HDr.out]
            rw [helpL_cons, Pr.run_ask, ho]
            simp only
            rw [if_pos herr]
          · exact hac.1
        rw [herr]
        have hm : d.n - (i + 1) < d.n - i := by omega
        clear hsw hE ho ha hac ha2 v2 l2 herr
        go_wp2_with fail
        go_roundw
        case rel => exact ⟨i + 1, by simp, by omega, HH⟩
        case measure => simp [intOf]; omega
      · have HE : Hid (Ev w0 b c r pb po t G w RInt ((helpL d.st d.sw).run s m) (.returned (.int .i64 a.err)) w2) := Ev.ret (a := a.err) (by
          rw [HRun.out, HDr.out, helpL_cons, Pr.run_ask, ho]
          simp only
          rw [if_neg herr]
          simp only [Pr.run]) rfl ha2
        clear hsw hE ho ha hac ha2 v2 l2
        go_wp2
        go_ret
        exact HE.out
    · obtain rfl : i = d.n := by omega
      have hdrop : d.sw.drop d.n = [] := by rw [HD.out.n]; exact List.drop_length
      have hsw := eswap ha.sys hc1 d.st 0 1
      have HDr := Lib.hid hdrop
      obtain ⟨c0, c1, c2, c3⟩ := hv.cells
      clear hR ha hrun hct hv hlo hdrop
      go_wp2_with fail
      refine hsw.mono ?_
      rintro e w2 hE
      rcases hE.cases with ⟨t2, G2, s2, m2, ho, rfl, ha⟩ | ⟨t2, G2, s2, m2, a, v, ho, rfl, rfl, ha⟩
      · have HE : Hid (Ev w0 b c r pb po t G w RInt ((helpL d.st d.sw).run s m) (Halt pb po) w2) := Ev.die (by rw [HRun.out, HDr.out, helpL_nil, Pr.run_ask, ho]) (HA.out.trans ha)
        clear hsw hE ho ha
        unfold Halt
        go_wp2
        exact ⟨rfl, HE.out⟩
      · have HE : Hid (Ev w0 b c r pb po t G w RInt ((helpL d.st d.sw).run s m) (.returned (.int .i64 a.err)) w2) := Ev.ret (a := a.err) (by
          rw [HRun.out, HDr.out, helpL_nil, Pr.run_ask, ho]
          simp only [Pr.run]) rfl (HA.out.trans ha)
        clear hsw hE ho ha
        go_wp2
        go_ret
        exact HE.out
def addK8 (N : Pr Int) (u : Int) : Pr Int := if u = 0 then N else .ret (-1)
def addK9 (x : La) (q : Int) : Pr Int := if q = 0 then .ret (wrap64 (x.d.ver + 1)) else .ret (-1)
def addK7 (x : La) (k : Ds × Int) : Pr Int := if k.2 = 0 then (helpP k.1).bind (addK9 x) else .ret (-1)
def addK6 (N : Pr Int) (x : La) (g : Int × Int) (p : An) : Pr Int := if p.err = 0 then (if p.ok = true then (heldP g.1).bind (addK7 x) else (undoP g.1).bind (addK8 N)) else .ret (-1)
def addK5 (N : Pr Int) (x : La) (a : An) (g : Int × Int) : Pr Int := if a.err = 0 ∧ g.2 = 0 then .ask (.swap 3 x.h g.1) (addK6 N x g) else .ret (-1)
def mkP (x : La) (a : An) : Pr (Int × Int) := makeP (wrap64 (x.d.ver + 1)) x.d.ver [⟨4, a.n, wrap64 (a.n + 1)⟩]
def addK4 (N : Pr Int) (x : La) (a : An) : Pr Int := (mkP x a).bind (addK5 N x a)
theorem addK_err (N : Pr Int) (h : Int) (d : Ds) (i : Bool) (e : Int) (he : ¬ e = 0) : addK N ⟨h, d, i, e⟩ = .ret (-1) := by unfold addK; rw [if_neg he]
theorem addK_wait (N : Pr Int) (h : Int) (d : Ds) : addK N ⟨h, d, false, 0⟩ = (helpP d).bind (addK8 N) := rfl
theorem addK_done (N : Pr Int) (h : Int) (d : Ds) : addK N ⟨h, d, true, 0⟩ = .ask (.word 4) (addK4 N ⟨h, d, true, 0⟩) := rfl
theorem cmp_add3w {a b : Int} (xo yo : Operand) (w : World) : (eqGuard .add 3 xo yo (.int .i64 a) (.int .i64 b)).run Tryd.prog w = .ok () w ∧ (binOp .add 3 (.int .i64 a) (.int .i64 b)).run Tryd.prog w = .ok (.int .i64 (wrap64 (a + b))) w :=
  ⟨by simp [eqGuard], by go_simp; rw [IntKind.wrap_i64, wrap64]⟩
/-- The yard's variable, and the cell's handle. -/
structure AV (w0 : World) (b c r pb : Nat) (t : Value) (G : List (Nat × List Sw)) (z gh cap : Nat) (W : World) : Prop where
  y0 : W.cell? ⟨z, 0, none⟩ = some (.pointer (some ⟨b, 0, none⟩))
  y1 : W.cell? ⟨z, 1, none⟩ = some (.int .i64 3)
  y2 : W.cell? ⟨z, 2, none⟩ = some (.slice (some ⟨gh, 0, none⟩) 1 cap)
  c4 : W.cell? ⟨gh, 0, none⟩ = some (.int .i64 4)
  lz : Loc w0 b c r pb t G W z
  lg : Loc w0 b c r pb t G W gh
theorem AV.aft {z gh cap : Nat} (h : AV w0 b c r pb t G z gh cap w) (ha : Aft w0 b c r pb po t G w t1 G1 w1 m1 s1) : AV w0 b c r pb t1 G1 z gh cap w1 := by
  obtain ⟨l1, k1⟩ := h.lz.aft ha
  obtain ⟨l2, k2⟩ := h.lg.aft ha
  have q1 : ∀ j, w1.cell? ⟨z, j, none⟩ = w.cell? ⟨z, j, none⟩ := fun j => World.cell?_of_block (w := w) (a := ⟨z, j, none⟩) k1
  exact ⟨(q1 0).trans h.y0, (q1 1).trans h.y1, (q1 2).trans h.y2, (World.cell?_of_block (w := w) (a := ⟨gh, 0, none⟩) k2).trans h.c4, l1, l2⟩
theorem AV.later {z gh cap : Nat} (h : AV w0 b c r pb t G z gh cap w) (hb : Below w.heap.size w w1) : AV w0 b c r pb t G z gh cap w1 :=
  ⟨(hb.cell (p := ⟨z, 0, none⟩) h.lz.lt).trans h.y0, (hb.cell (p := ⟨z, 1, none⟩) h.lz.lt).trans h.y1, (hb.cell (p := ⟨z, 2, none⟩) h.lz.lt).trans h.y2, (hb.cell (p := ⟨gh, 0, none⟩) h.lg.lt).trans h.c4, h.lz.same hb.size, h.lg.same hb.size⟩
def AHead (C : Int) (w0 : World) (b c r pb po : Nat) (t : Value) (G : List (Nat × List Sw)) (w : World) (n : Nat) (s : Pt) (m : M) (gh cap : Nat) (wr : World) : Prop :=
  ∃ n1 t1 G1 m1 s1, (addP (n + 1)).run s m = (addP (n1 + 1)).run s1 m1 ∧ left s1 ≤ n1 ∧ Aft w0 b c r pb po t G w t1 G1 wr m1 s1 ∧ Kp C s1 m1 ∧ AV w0 b c r pb t1 G1 w.heap.size gh cap wr
def RAdd (_ : List (Nat × List Sw)) (a : Int) (v : Value) : Prop := v = .iface 3 (.int .i64 a)
/-- In the region that makes a descriptor. -/
structure MkMid (w : World) (x : Sw) (K : Value → World → Prop) (bs : List Bool) (β : Nat → Value) (V : World) : Prop where
  a : bs[1]? = some false → Below w.heap.size w V
  a1 : bs[0]? = some true → bs[1]? = some false → ∃ g, β 14 = .slice (some ⟨g, 0, none⟩) 1 1 ∧ Rw V g [x]
  a2 : bs[1]? = some true → K (β 15) V
section
variable {x : Sw} {K : Value → World → Prop} {D : List PanicEntry → World → Prop} {bs : List Bool} {β : Nat → Value} {V : World}
theorem mkmid_start : MkMid w x K [false, false] β w.drew := ⟨fun _ => (Below.refl _ _).drew, fun e => (by cases e), fun e => (by cases e)⟩
theorem build_90' (a b c : Int) (w : World) : (Instr.build 90 #[(0, .int .i64 a), (1, .int .i64 b), (2, .int .i64 c)]).run Tryd.prog w = .ok (.agg #[.int .i64 a, .int .i64 b, .int .i64 c]) w := by kernel_rfl
theorem row_50' (x : Sw) (w : World) : (Instr.buildSlice 50 1 #[(0, .agg #[.int .i64 x.cell, .int .i64 x.old, .int .i64 x.new])]).run Tryd.prog w = .ok (.slice (some ⟨w.heap.size, 0, none⟩) 1 1) (w.alloc (.cells x.row.toArray 90)) := by kernel_rfl
theorem mkmid_row (h : MkMid w x K bs β V) (h1 : bs[1]? = some false) :
    ∃ u w', (Instr.buildSlice 50 1 #[(0, .agg #[.int .i64 x.cell, .int .i64 x.old, .int .i64 x.new])]).run Tryd.prog V = .ok u w' ∧ MkMid w x K (bs.set 0 true) (FreeW.upd β 14 u) w' := by
  have hb := h.a h1
  refine ⟨_, _, row_50' x V, ⟨fun _ => hb.alloc hb.size _, fun _ _ => ⟨V.heap.size, by simp [FreeW.upd], rw_of (by simp) fun j u hj => ?_⟩, fun e => ?_⟩⟩
  · rw [World.cell?_alloc_new]
    simpa [swRow] using hj
  · simp [h1] at e
theorem mkmid_call {args : Array Value} (h : MkMid w x K bs β V) (h0 : bs[0]? = some true) (h1 : bs[1]? = some false)
    (hc : ∀ g, Below w.heap.size w V → β 14 = .slice (some ⟨g, 0, none⟩) 1 1 → Rw V g [x] → Calls Tryd.prog 31 args V fun e w' => (∃ u, e = .returned u ∧ K u w') ∨ ∃ ch, e = .panicked ch ∧ D ch w') :
    Calls Tryd.prog 31 args V fun e w' => (∃ u, e = .returned u ∧ MkMid w x K (bs.set 1 true) (FreeW.upd β 15 u) w') ∨ ∃ ch, e = .panicked ch ∧ D ch w' := by
  obtain ⟨g, e1, e2⟩ := h.a1 h0 h1
  refine (hc g (h.a h1) e1 e2).mono ?_
  rintro e w' (⟨u, rfl, hk⟩ | hd)
  · refine .inl ⟨u, rfl, fun e => ?_, fun _ e => ?_, fun _ => by simp only [FreeW.upd, if_true]; exact hk⟩
    · rw [set_at h1] at e; cases e
    · rw [set_at h1] at e; cases e
  · exact .inr hd
end
def MkK (w0 : World) (b c r pb po : Nat) (t : Value) (G : List (Nat × List Sw)) (w : World) (x : La) (a : An) (s : Pt) (m : M) (u : Value) (V : World) : Prop :=
  ∃ t5 G5 s5 m5 g, (mkP x a).run s m = (some g, s5, m5) ∧ u = .tuple #[.int .i64 g.1, .int .i64 g.2] ∧ Aft w0 b c r pb po t G w t5 G5 V m5 s5
def MkD (w0 : World) (b c r pb po : Nat) (t : Value) (G : List (Nat × List Sw)) (w : World) (x : La) (a : An) (s : Pt) (m : M) (ch : List PanicEntry) (V : World) : Prop :=
  ∃ t5 G5 s5 m5, (mkP x a).run s m = (none, s5, m5) ∧ Ending.panicked ch = Halt pb po ∧ Aft w0 b c r pb po t G w t5 G5 V m5 s5
theorem mk_nth {x : La} {a : An} {u : Value} {V : World} (h : MkK w0 b c r pb po t G w x a s m u V) {k : Nat} (hk : k < 2) : (Instr.extract u k).run Tryd.prog V = .ok (nth k u) V := by
  obtain ⟨_, _, _, _, g, _, e, _⟩ := h
  rw [e]
  match k, hk with
  | 0, _ => rfl
  | 1, _ => rfl
theorem enter_31 (xs : Array Value) (w : World) : (callFunc 31 xs).run Tryd.prog w = .ok (.enter 31 xs) w := by kernel_rfl
theorem load_25' {w : World} {p : Addr} {a : Option Addr} {n cp : Nat} (h : w.cell? p = some (.slice a n cp)) : (Instr.loadAt 25 (.pointer (some p))).run Tryd.prog w = .ok (.slice a n cp) w := by go_simp
theorem at_25' (g n cp : Nat) (h : 0 < n) (w : World) : (Instr.indexAt 25 (.slice (some ⟨g, 0, none⟩) n cp) (.int .i64 0)).run Tryd.prog w = .ok (.pointer (some ⟨g, 0, none⟩)) w := by
  have h1 : (0 : Int) < (n : Int) := by omega
  go_simp
set_option maxHeartbeats 1000000 in
theorem add_E {C : Int} (hC : C ≤ 600000) (h : SysE w0 b c r pb po t G w m s) (hT : TabAt w0) (hk : Kp C s m) (n : Nat) (hn : left s ≤ n) (gh cap : Nat) (hg : Loc w0 b c r pb t G w gh) (hc : w.cell? ⟨gh, 0, none⟩ = some (.int .i64 4)) :
    Calls Tryd.prog 27 #[.agg #[.pointer (some ⟨b, 0, none⟩), .int .i64 3, .slice (some ⟨gh, 0, none⟩) 1 cap], .pointer (some ⟨pb, po, none⟩)] w fun e w' => Ev w0 b c r pb po t G w RAdd ((addP (n + 1)).run s m) e w' := by
  have hb0 := (Below.refl w.heap.size w).alloc (Nat.le_refl _) (yobj b 3 (some ⟨gh, 0, none⟩) 1 cap)
  have y := ynew w b 3 (some ⟨gh, 0, none⟩) 1 cap
  have HH : Hid (AHead C w0 b c r pb po t G w n s m gh cap (w.alloc (yobj b 3 (some ⟨gh, 0, none⟩) 1 cap))) :=
    ⟨n, t, G, m, s, rfl, hn, (Aft.refl h).later hb0, hk, ⟨y.c0, y.c1, y.c2, (hb0.cell (p := ⟨gh, 0, none⟩) hg.lt).trans hc, h.fresh _, hg.same hb0.size⟩⟩
  have mk := mkb3
  unfold yobj at HH
  clear h hk hg hc hb0 y hn
  go_enter Tryd.func27, Tryd.ntmps27
  go_wp2_with fail
  go_loopw [] (fun wr => Hid (AHead C w0 b c r pb po t G w n s m gh cap wr)) (fun wr => leftAt wr pb po)
  case atStart => exact HH
  case round =>
    clear HH
    obtain ⟨n1, t1, G1, m1, s1, hrun, hlf, ha, hkp, hav⟩ := hrel.out
    have hl := latest_E ha.sys (by have := hkp.max; omega) 3
    have y1 := hav.y1
    have HM := Lib.hid (left_at ha.sys)
    have HR := Lib.hid (⟨hrun, hlf, ha, hkp, hav⟩ : _ ∧ _ ∧ _ ∧ _ ∧ _)
    clear hrel hrun hlf ha hkp hav
    go_wp2_with fail
    refine hl.mono ?_
    rintro e w2 hE
    obtain ⟨hrun, hlf, ha, hkp, hav⟩ := HR.out
    rcases hE.cases with ⟨t2, G2, s2, m2, ho, rfl, ha2⟩ | ⟨t2, G2, s2, m2, x, v, ho, rfl, ⟨d, hd, hdi, rfl⟩, ha2⟩
    · have HE : Hid (Ev w0 b c r pb po t G w RAdd ((addP (n + 1)).run s m) (Halt pb po) w2) := Ev.die (by rw [hrun, addP, aA, Pr.bind_none ho]) (ha.trans ha2)
      clear hl hE ho ha2 hrun hlf ha hkp hav y1 HR HM
      unfold Halt
      go_wp2
      exact ⟨rfl, HE.out⟩
    · obtain ⟨kp2, lt2⟩ := Pr.run_lt (q := .word 3) (k := _) hkp (show (Pr.ask (.word 3) _).run s1 m1 = _ from ho)
      obtain ⟨xh, xd, xi, xe⟩ := x
      have hd : d.e = xd := hd
      subst hd
      have hrun2 : (addP (n + 1)).run s m = (addK (addP n1) ⟨xh, d.e, xi, xe⟩).run s2 m2 := by rw [hrun, addP, aA, Pr.bind_some ho]
      obtain ⟨w3, hw3⟩ : ∃ V, V = w2.alloc d.obj := ⟨_, rfl⟩
      have hb3 : Below w2.heap.size w2 w3 := by rw [hw3]; exact (Below.refl _ _).alloc (Nat.le_refl _) _
      have hd3 : DVar w3 w2.heap.size d := by rw [hw3]; exact dnewd w2 d
      have ld3 : Loc w0 b c r pb t2 G2 w3 w2.heap.size := by rw [hw3]; exact ha2.sys.fresh d.obj
      have hA3 := (ha.trans ha2).later hb3
      have hav3 := (hav.aft ha2).later hb3
      have HW3 := Lib.hid hw3.symm
      obtain ⟨k0, k1, k2, k3⟩ := hd3.cells
      have y1 := hav3.y1
      have y2 := hav3.y2
      have c4 := hav3.c4
      have H3 := Lib.hid (⟨hrun2, kp2, lt2, hlf, hA3, hav3, hd3, ld3, hdi⟩ : _ ∧ _ ∧ _ ∧ _ ∧ _ ∧ _ ∧ _ ∧ _ ∧ _)
      simp only
      unfold Ds.v
      unfold Ds.obj at HW3
      clear hl hE ho ha2 hrun hlf ha hkp hav HR hrun2 kp2 lt2 hb3 hd3 ld3 hA3 hav3 hw3 hdi
      by_cases herr : xe = 0
      · subst herr
        cases xi with
        | false =>
          obtain ⟨hrun2, kp2, lt2, hlf, hA3, hav3, hd3, ld3, hdi⟩ := H3.out
          have hh := help_K (C := C) (by omega) hA3.sys kp2 d hdi
          unfold Ds.v at hh
          clear hrun2 kp2 lt2 hlf hA3 hav3 hd3 ld3 hdi
          go_wp2_with (first | rw [HW3.out] | fail)
          refine hh.mono ?_
          rintro e w4 hE
          obtain ⟨hrun2, kp2, lt2, hlf, hA3, hav3, hd3, ld3, hdi⟩ := H3.out
          have e0 : helpP d.e = helpP d := rfl
          rw [addK_wait, e0] at hrun2
          rcases hE.cases with ⟨t4, G4, s4, m4, ho4, rfl, ha4⟩ | ⟨t4, G4, s4, m4, q, v, ho4, rfl, rfl, ha4⟩
          · have HE : Hid (Ev w0 b c r pb po t G w RAdd ((addP (n + 1)).run s m) (Halt pb po) w4) := Ev.die (by rw [hrun2, Pr.bind_none ho4]) (hA3.trans ha4)
            clear hh hE ho4 ha4 hrun2 kp2 lt2 hlf hA3 hav3 hd3 ld3 hdi H3 HM
            unfold Halt
            go_wp2
            exact ⟨rfl, HE.out⟩
          · rw [Pr.bind_some ho4] at hrun2
            by_cases hq : q = 0
            · subst hq
              obtain ⟨kp4, le4⟩ := Pr.run_le kp2 ho4
              obtain ⟨n', rfl⟩ : ∃ n', n1 = n' + 1 := ⟨n1 - 1, by omega⟩
              have HH : Hid (AHead C w0 b c r pb po t G w n s m gh cap w4) := ⟨n', t4, G4, m4, s4, hrun2, by omega, hA3.trans ha4, kp4, hav3.aft ha4⟩
              have HM4 : Hid (leftAt w4 pb po < leftAt wr pb po) := by
                have := left_at (hA3.trans ha4).sys
                have := HM.out
                unfold Hid; omega
              clear hh hE ho4 ha4 hrun2 kp2 lt2 hlf hA3 hav3 hd3 ld3 hdi H3 kp4 le4 HM k0 k1 k2 k3 y1 y2 c4
              go_wp2_with fail
              go_roundw
              case rel => exact HH
              case measure => exact HM4.out
            · have HE : Hid (Ev w0 b c r pb po t G w RAdd ((addP (n + 1)).run s m) (.returned (.iface 3 (.int .i64 (-1)))) w4) := Ev.ret (a := -1) (by rw [hrun2]; unfold addK8; rw [if_neg hq]; simp only [Pr.run]) rfl (hA3.trans ha4)
              clear hh hE ho4 ha4 hrun2 kp2 lt2 hlf hA3 hav3 hd3 ld3 hdi H3 HM k0 k1 k2 k3 y1 y2 c4
              go_wp2
              go_ret
              exact HE.out
        | true =>
          obtain ⟨hrun2, kp2, lt2, hlf, hA3, hav3, hd3, ld3, hdi⟩ := H3.out
          have hw := eword hA3.sys (by have := kp2.max; omega) 4
          clear hrun2 kp2 lt2 hlf hA3 hav3 hd3 ld3 hdi
          go_wp2_with (first | rw [HW3.out] | fail)
          refine hw.mono ?_
          rintro e w4 hE
          obtain ⟨hrun2, kp2, lt2, hlf, hA3, hav3, hd3, ld3, hdi⟩ := H3.out
          rw [addK_done, Pr.run_ask] at hrun2
          rcases hE.cases with ⟨t4, G4, s4, m4, ho4, rfl, ha4⟩ | ⟨t4, G4, s4, m4, a, v, ho4, rfl, rfl, ha4⟩
          · have HE : Hid (Ev w0 b c r pb po t G w RAdd ((addP (n + 1)).run s m) (Halt pb po) w4) := Ev.die (by rw [hrun2, ho4]) (hA3.trans ha4)
            clear hw hE ho4 ha4 hrun2 kp2 lt2 hlf hA3 hav3 hd3 ld3 hdi H3 HM
            unfold Halt
            go_wp2
            exact ⟨rfl, HE.out⟩
          rw [ho4] at hrun2
          have hrun4 : (addP (n + 1)).run s m = (addK4 (addP n1) ⟨xh, d.e, true, 0⟩ a).run s4 m4 := hrun2
          have kp4 : Kp C s4 m4 := by
            have := (kp2.ask (.word 4)).1
            rw [ho4] at this; exact this
          have lt4 : left s4 < left s1 := by
            have := (kp2.ask (.word 4)).2
            rw [ho4] at this
            have := this rfl
            simp only at this; omega
          have hA4 := hA3.trans ha4
          have hav4 := hav3.aft ha4
          obtain ⟨hd4, ld4⟩ := ha4.cells ld3 hd3
          have H4 := Lib.hid (⟨hrun4, kp4, lt4, hlf, hA4, hav4, hd4, ld4⟩ : _ ∧ _ ∧ _ ∧ _ ∧ _ ∧ _ ∧ _ ∧ _)
          have HX : Hid (∀ V, Below w4.heap.size w4 V → V.cell? ⟨w2.heap.size, 0, none⟩ = some (.int .i64 d.ver) ∧ V.cell? ⟨w.heap.size, 2, none⟩ = some (.slice (some ⟨gh, 0, none⟩) 1 cap) ∧ V.cell? ⟨gh, 0, none⟩ = some (.int .i64 4)) := fun V hb =>
            ⟨((hd4.later hb).cells).1, (hav4.later hb).y2, (hav4.later hb).c4⟩
          have HU : Hid (∀ g V u, Below w4.heap.size w4 V → u = .slice (some ⟨g, 0, none⟩) 1 1 → Rw V g [⟨4, a.n, wrap64 (a.n + 1)⟩] → Calls Tryd.prog 31 #[.pointer (some ⟨pb, po, none⟩), .int .i64 (wrap64 (d.ver + 1)), .int .i64 d.ver, u] V fun e w' => (∃ u, e = .returned u ∧ MkK w0 b c r pb po t4 G4 w4 ⟨xh, d.e, true, 0⟩ a s4 m4 u w') ∨ ∃ ch, e = .panicked ch ∧ MkD w0 b c r pb po t4 G4 w4 ⟨xh, d.e, true, 0⟩ a s4 m4 ch w') := by
            rintro g V u hb rfl hrw
            have hmk := make_E (hA4.sys.later hb) hT (by have := kp4.max; omega) (wrap64 (d.ver + 1)) d.ver (some ⟨g, 0, none⟩) 1 [⟨4, a.n, wrap64 (a.n + 1)⟩] (by simp) (by simp) (.inr ⟨g, rfl, hrw⟩)
            refine hmk.mono ?_
            intro e w' hE
            rcases hE.cases with ⟨t5, G5, s5, m5, ho5, rfl, ha5⟩ | ⟨t5, G5, s5, m5, g5, v, ho5, rfl, rfl, ha5⟩
            · exact .inr ⟨_, rfl, t5, G5, s5, m5, ho5, rfl, ha5.back hb⟩
            · exact .inl ⟨_, rfl, t5, G5, s5, m5, g5, ho5, rfl, ha5.back hb⟩
          clear hw hE ho4 ha4 hrun2 kp2 lt2 hlf hA3 hav3 hd3 ld3 hdi H3 hrun4 kp4 lt4 hA4 hav4 hd4 ld4 k0 k1 k2 k3 y1 y2 c4 HW3
          go_wp2_with fail
          refine FreeW.region_puts (S := MkMid w4 ⟨4, a.n, wrap64 (a.n + 1)⟩ (MkK w0 b c r pb po t4 G4 w4 ⟨xh, d.e, true, 0⟩ a s4 m4)) (D := MkD w0 b c r pb po t4 G4 w4 ⟨xh, d.e, true, 0⟩ a s4 m4) (effs := [14, 15])
            (tab := [⟨2, fun _ => [.pointer (some ⟨w2.heap.size, 0, none⟩)], fun _ => .int .i64 d.ver, .read⟩,
              ⟨3, fun _ => [.int .i64 d.ver, .int .i64 1], fun _ => .int .i64 (wrap64 (d.ver + 1)), .pure⟩,
              ⟨5, fun _ => [.pointer (some ⟨w2.heap.size, 0, none⟩)], fun _ => .int .i64 d.ver, .read⟩,
              ⟨7, fun _ => [.pointer (some ⟨w.heap.size, 2, none⟩)], fun _ => (.slice (some ⟨gh, 0, none⟩) 1 cap), .read⟩,
              ⟨8, fun _ => [(.slice (some ⟨gh, 0, none⟩) 1 cap), .int .i64 0], fun _ => .pointer (some ⟨gh, 0, none⟩), .pure⟩,
              ⟨9, fun _ => [.pointer (some ⟨gh, 0, none⟩)], fun _ => .int .i64 4, .read⟩,
              ⟨12, fun _ => [.int .i64 a.n, .int .i64 1], fun _ => .int .i64 (wrap64 (a.n + 1)), .pure⟩,
              ⟨13, fun _ => [.int .i64 4, .int .i64 a.n, .int .i64 (wrap64 (a.n + 1))], fun _ => (.agg #[.int .i64 4, .int .i64 a.n, .int .i64 (wrap64 (a.n + 1))]), .pure⟩,
              ⟨14, fun _ => [(.agg #[.int .i64 4, .int .i64 a.n, .int .i64 (wrap64 (a.n + 1))])], fun β => (β 14), .eff⟩,
              ⟨15, fun β => [.func (.func 31) #[] #[], .pointer (some ⟨pb, po, none⟩), .int .i64 (wrap64 (d.ver + 1)), .int .i64 d.ver, (β 14)], fun β => (β 15), .get⟩,
              ⟨17, fun β => [(β 15)], fun β => (nth 0 (β 15)), .read⟩,
              ⟨18, fun β => [(β 15)], fun β => (nth 1 (β 15)), .read⟩])
            (vs := [([], fun _ => .pointer (some ⟨pb, po, none⟩)), ([], fun _ => .pointer (some ⟨w2.heap.size, 0, none⟩)), ([], fun _ => .int .i64 d.ver), ([], fun _ => .int .i64 (wrap64 (d.ver + 1))), ([], fun _ => .pointer (some ⟨w2.heap.size, 0, none⟩)), ([], fun _ => .int .i64 d.ver), ([], fun _ => .pointer (some ⟨w.heap.size, 2, none⟩)), ([], fun _ => (.slice (some ⟨gh, 0, none⟩) 1 cap)), ([], fun _ => .pointer (some ⟨gh, 0, none⟩)), ([], fun _ => .int .i64 4), ([], fun _ => .int .i64 a.n), ([], fun _ => .int .i64 a.n), ([], fun _ => .int .i64 (wrap64 (a.n + 1))), ([], fun _ => (.agg #[.int .i64 4, .int .i64 a.n, .int .i64 (wrap64 (a.n + 1))])), ([14], fun l => l.headD undef), ([15], fun l => l.headD undef), ([15], fun l => l.headD undef), ([15], fun l => nth 0 (l.headD undef)), ([15], fun l => nth 1 (l.headD undef)), ([15], fun l => nth 0 (l.headD undef)), ([15], fun l => nth 1 (l.headD undef))])
            ?hD (by kernel_rfl) ⟨by kernel_rfl, ⟨FreeW.d_load _ rfl rfl (fun β bs w h hd => load_3 (HX.out _ (h.a ((hd 1 15 rfl).2 (.inl (by kernel_rfl))))).1),
              FreeW.d_bin _ rfl rfl (fun _ xo yo w => cmp_add3w xo yo w),
              FreeW.d_load _ rfl rfl (fun β bs w h hd => load_3 (HX.out _ (h.a ((hd 1 15 rfl).2 (.inl (by kernel_rfl))))).1),
              FreeW.d_load _ rfl rfl (fun β bs w h hd => load_25' (HX.out _ (h.a ((hd 1 15 rfl).2 (.inl (by kernel_rfl))))).2.1),
              FreeW.d_at _ rfl rfl (fun _ w => at_25' gh 1 cap (by decide) w),
              FreeW.d_load _ rfl rfl (fun β bs w h hd => load_3 (HX.out _ (h.a ((hd 1 15 rfl).2 (.inl (by kernel_rfl))))).2.2),
              FreeW.d_bin _ rfl rfl (fun _ xo yo w => cmp_add3w xo yo w),
              FreeW.d_build3 _ rfl rfl (fun _ w => build_90' 4 a.n (wrap64 (a.n + 1)) w),
              FreeW.d_row1 _ rfl rfl 0 rfl (fun β bs w h hd => mkmid_row (x := ⟨4, a.n, wrap64 (a.n + 1)⟩) h ((hd 1 15 rfl).2 (.inl (by kernel_rfl)))),
              FreeW.d_get4 _ rfl rfl enter_31 1 rfl (fun β bs w h hd => mkmid_call (x := ⟨4, a.n, wrap64 (a.n + 1)⟩) h ((hd 0 14 rfl).1 (by kernel_rfl)) ((hd 1 15 rfl).2 (.inr rfl)) (fun g => HU.out g _ _)),
              FreeW.d_extract _ rfl rfl (fun β bs w h hd => mk_nth (h.a2 ((hd 1 15 rfl).1 (by kernel_rfl))) (by decide)),
              FreeW.d_extract _ rfl rfl (fun β bs w h hd => mk_nth (h.a2 ((hd 1 15 rfl).1 (by kernel_rfl))) (by decide)),
              trivial⟩,
              fun β => by kernel_rfl, fun β => by kernel_rfl, by kernel_rfl, fun β => by kernel_rfl, by kernel_rfl⟩ mkmid_start (fun β => Free.from_ 46 [.pointer (some ⟨pb, po, none⟩), .pointer (some ⟨w2.heap.size, 0, none⟩), .int .i64 d.ver, .int .i64 (wrap64 (d.ver + 1)), .pointer (some ⟨w2.heap.size, 0, none⟩), .int .i64 d.ver, .pointer (some ⟨w.heap.size, 2, none⟩), (.slice (some ⟨gh, 0, none⟩) 1 cap), .pointer (some ⟨gh, 0, none⟩), .int .i64 4, .int .i64 a.n, .int .i64 a.n, .int .i64 (wrap64 (a.n + 1)), (.agg #[.int .i64 4, .int .i64 a.n, .int .i64 (wrap64 (a.n + 1))]), (β 14), (β 15)] ++ [(45, (β 15)), (62, (nth 0 (β 15))), (63, (nth 1 (β 15))), (11, (nth 0 (β 15))), (12, (nth 1 (β 15)))]) (fun β => by kernel_rfl) ?_
          case hD =>
            intro ch a9 W hdf hD
            obtain ⟨t5, G5, s5, m5, ho5, hh5, ha5⟩ := hD
            refine And.intro (hdf.trans rfl) ?_
            obtain ⟨hrun4, kp4, lt4, hlf, hA4, hav4, hd4, ld4⟩ := H4.out
            rw [hh5]
            exact Ev.die (by rw [hrun4, addK4, Pr.bind_none ho5]) (hA4.trans ha5)
          intro β w5 h5
          rw [FreeX.puts_append, Free.puts_from _ _ _ (Nat.le_of_ble_eq_true rfl)]
          simp only [List.take_succ_cons, List.take_zero, List.drop_succ_cons, List.drop_zero, List.cons_append, List.nil_append, List.length_cons, List.length_nil, Nat.reduceAdd]
          unfold Free.puts
          simp only [List.foldl_cons, List.foldl_nil]
          obtain ⟨t5, G5, s5, m5, g5, ho5, e5, ha5⟩ := h5.a2 rfl
          simp only [e5, nth_0, nth_1]
          clear h5 e5 HX HU
          generalize β 14 = v14 at *
          obtain ⟨hrun4, kp4, lt4, hlf, hA4, hav4, hd4, ld4⟩ := H4.out
          obtain ⟨kp5, le5⟩ := Pr.run_le kp4 ho5
          have hrun5 : (addP (n + 1)).run s m = (addK5 (addP n1) ⟨xh, d.e, true, 0⟩ a g5).run s5 m5 := by rw [hrun4, addK4, Pr.bind_some ho5]
          have hA5 := hA4.trans ha5
          have hav5 := hav4.aft ha5
          obtain ⟨hd5, ld5⟩ := ha5.cells ld4 hd4
          have y1 := hav5.y1
          have H5 := Lib.hid (⟨hrun5, kp5, (by omega : left s5 < left s1), hlf, hA5, hav5, hd5, ld5⟩ : _ ∧ _ ∧ _ ∧ _ ∧ _ ∧ _ ∧ _ ∧ _)
          obtain ⟨g1, g2⟩ := g5
          simp only
          clear ho5 ha5 hrun4 kp4 lt4 hlf hA4 hav4 hd4 ld4 kp5 le5 hrun5 hA5 hav5 hd5 ld5 H4
          by_cases hok : a.err = 0 ∧ g2 = 0
          · obtain ⟨hr1, rfl⟩ := hok
            rw [hr1]
            obtain ⟨hrun5, kp5, lt5, hlf, hA5, hav5, hd5, ld5⟩ := H5.out
            have hp := publish_E hA5.sys (by have := kp5.max; omega) 3 xh g1
            have hrun6 : (addP (n + 1)).run s m = (Pr.ask (.swap 3 xh g1) (addK6 (addP n1) ⟨xh, d.e, true, 0⟩ (g1, 0))).run s5 m5 := by
              rw [hrun5]; unfold addK5; rw [if_pos ⟨hr1, rfl⟩]
            rw [Pr.run_ask] at hrun6
            have HRun6 := Lib.hid hrun6
            clear hrun5 kp5 lt5 hlf hA5 hav5 hd5 ld5 hrun6
            go_wp2_with fail
            refine hp.mono ?_
            rintro e w6 hE
            obtain ⟨hrun5, kp5, lt5, hlf, hA5, hav5, hd5, ld5⟩ := H5.out
            have hrun6 := HRun6.out
            rcases hE.cases with ⟨t6, G6, s6, m6, ho6, rfl, ha6⟩ | ⟨t6, G6, s6, m6, p, v, ho6, rfl, rfl, ha6⟩
            · have HE : Hid (Ev w0 b c r pb po t G w RAdd ((addP (n + 1)).run s m) (Halt pb po) w6) := Ev.die (by rw [hrun6, ho6]) (hA5.trans ha6)
              clear hp hE ho6 ha6 hrun5 kp5 lt5 hlf hA5 hav5 hd5 ld5 hrun6 HRun6 H5 HM hr1
              unfold Halt
              go_wp2
              exact ⟨rfl, HE.out⟩
            rw [ho6] at hrun6
            have hrun7 : (addP (n + 1)).run s m = (addK6 (addP n1) ⟨xh, d.e, true, 0⟩ (g1, 0) p).run s6 m6 := hrun6
            have kp6 : Kp C s6 m6 := by
              have := (kp5.ask (.swap 3 xh g1)).1
              rw [ho6] at this; exact this
            have lt6 : left s6 < left s1 := by
              have := (kp5.ask (.swap 3 xh g1)).2
              rw [ho6] at this
              have := this rfl
              simp only at this; omega
            have hA6 := hA5.trans ha6
            have hav6 := hav5.aft ha6
            obtain ⟨hd6, ld6⟩ := ha6.cells ld5 hd5
            have H6 := Lib.hid (⟨hrun7, kp6, lt6, hlf, hA6, hav6, hd6, ld6⟩ : _ ∧ _ ∧ _ ∧ _ ∧ _ ∧ _ ∧ _ ∧ _)
            clear hp hE ho6 ha6 hrun5 kp5 lt5 hlf hA5 hav5 hd5 ld5 hrun6 HRun6 H5 hrun7 kp6 lt6 hA6 hav6 hd6 ld6 hr1 y1
            obtain ⟨ph, pn, pk, pe⟩ := p
            simp only
            by_cases hpe : pe = 0
            · subst hpe
              obtain ⟨hrun7, kp6, lt6, hlf, hA6, hav6, hd6, ld6⟩ := H6.out
              cases pk with
              | false =>
                have hrun8 : (addP (n + 1)).run s m = ((undoP g1).bind (addK8 (addP n1))).run s6 m6 := hrun7
                have hu := undo_E hA6.sys (by have := kp6.max; omega) g1
                have HR8 := Lib.hid hrun8
                clear hrun7 kp6 lt6 hlf hA6 hav6 hd6 ld6 hrun8
                go_wp2_with fail
                refine hu.mono ?_
                rintro e w7 hE
                obtain ⟨hrun7, kp6, lt6, hlf, hA6, hav6, hd6, ld6⟩ := H6.out
                have hrun8 := HR8.out
                rcases hE.cases with ⟨t7, G7, s7, m7, ho7, rfl, ha7⟩ | ⟨t7, G7, s7, m7, q, v, ho7, rfl, rfl, ha7⟩
                · have HE : Hid (Ev w0 b c r pb po t G w RAdd ((addP (n + 1)).run s m) (Halt pb po) w7) := Ev.die (by rw [hrun8, Pr.bind_none ho7]) (hA6.trans ha7)
                  clear hu hE ho7 ha7 hrun7 kp6 lt6 hlf hA6 hav6 hd6 ld6 hrun8 HR8 H6 HM
                  unfold Halt
                  go_wp2
                  exact ⟨rfl, HE.out⟩
                · rw [Pr.bind_some ho7] at hrun8
                  by_cases hq : q = 0
                  · subst hq
                    obtain ⟨kp7, le7⟩ := Pr.run_le kp6 ho7
                    obtain ⟨n', rfl⟩ : ∃ n', n1 = n' + 1 := ⟨n1 - 1, by omega⟩
                    have HH : Hid (AHead C w0 b c r pb po t G w n s m gh cap w7) := ⟨n', t7, G7, m7, s7, hrun8, by omega, hA6.trans ha7, kp7, hav6.aft ha7⟩
                    have HM7 : Hid (leftAt w7 pb po < leftAt wr pb po) := by
                      have := left_at (hA6.trans ha7).sys
                      have := HM.out
                      unfold Hid; omega
                    clear hu hE ho7 ha7 hrun7 kp6 lt6 hlf hA6 hav6 hd6 ld6 hrun8 HR8 H6 kp7 le7 HM
                    go_wp2_with fail
                    go_roundw
                    case rel => exact HH
                    case measure => exact HM7.out
                  · have HE : Hid (Ev w0 b c r pb po t G w RAdd ((addP (n + 1)).run s m) (.returned (.iface 3 (.int .i64 (-1)))) w7) := Ev.ret (a := -1) (by rw [hrun8]; unfold addK8; rw [if_neg hq]; simp only [Pr.run]) rfl (hA6.trans ha7)
                    clear hu hE ho7 ha7 hrun7 kp6 lt6 hlf hA6 hav6 hd6 ld6 hrun8 HR8 H6 HM
                    go_wp2
                    go_ret
                    exact HE.out
              | true =>
                have hrun8 : (addP (n + 1)).run s m = ((heldP g1).bind (addK7 ⟨xh, d.e, true, 0⟩)).run s6 m6 := hrun7
                have hu := load_E hA6.sys (by have := kp6.max; omega) g1
                have HR8 := Lib.hid hrun8
                clear hrun7 kp6 lt6 hlf hA6 hav6 hd6 ld6 hrun8
                go_wp2_with fail
                refine hu.mono ?_
                rintro e w7 hE
                obtain ⟨hrun7, kp6, lt6, hlf, hA6, hav6, hd6, ld6⟩ := H6.out
                have hrun8 := HR8.out
                rcases hE.cases with ⟨t7, G7, s7, m7, ho7, rfl, ha7⟩ | ⟨t7, G7, s7, m7, k, v, ho7, rfl, ⟨dq, hdq, hiq, rfl⟩, ha7⟩
                · have HE : Hid (Ev w0 b c r pb po t G w RAdd ((addP (n + 1)).run s m) (Halt pb po) w7) := Ev.die (by rw [hrun8, Pr.bind_none ho7]) (hA6.trans ha7)
                  clear hu hE ho7 ha7 hrun7 kp6 lt6 hlf hA6 hav6 hd6 ld6 hrun8 HR8 H6 HM
                  unfold Halt
                  go_wp2
                  exact ⟨rfl, HE.out⟩
                · rw [Pr.bind_some ho7] at hrun8
                  obtain ⟨kd, ke⟩ := k
                  have hdq : dq.e = kd := hdq
                  subst hdq
                  obtain ⟨kp7, le7⟩ := Pr.run_le kp6 ho7
                  obtain ⟨w8, hw8⟩ : ∃ V, V = w7.alloc dq.obj := ⟨_, rfl⟩
                  have hb8 : Below w7.heap.size w7 w8 := by rw [hw8]; exact (Below.refl _ _).alloc (Nat.le_refl _) _
                  have hq8 : DVar w8 w7.heap.size dq := by rw [hw8]; exact dnewd w7 dq
                  have hA8 := (hA6.trans ha7).later hb8
                  obtain ⟨hd7, ld7⟩ := ha7.cells ld6 hd6
                  have hd8 := hd7.later hb8
                  have ld8 := ld7.same hb8.size
                  have HW8 := Lib.hid hw8.symm
                  obtain ⟨j0, j1, j2, j3⟩ := hq8.cells
                  have k0 := hd8.cells.1
                  have H8 := Lib.hid (⟨hrun8, kp7, hA8, hd8, ld8, hiq⟩ : _ ∧ _ ∧ _ ∧ _ ∧ _ ∧ _)
                  simp only
                  unfold Ds.v
                  unfold Ds.obj at HW8
                  clear hu hE ho7 ha7 hrun7 kp6 lt6 hlf hA6 hav6 hd6 ld6 hrun8 HR8 H6 HM kp7 le7 hb8 hq8 hA8 hd7 ld7 hd8 ld8 hw8 hiq
                  by_cases hke : ke = 0
                  · subst hke
                    obtain ⟨hrun8, kp7, hA8, hd8, ld8, hiq⟩ := H8.out
                    have hh := help_K (C := C) (by omega) hA8.sys kp7 dq hiq
                    unfold Ds.v at hh
                    clear hrun8 kp7 hA8 hd8 ld8 hiq
                    go_wp2_with (first | rw [HW8.out] | fail)
                    refine hh.mono ?_
                    rintro e w9 hE
                    obtain ⟨hrun8, kp7, hA8, hd8, ld8, hiq⟩ := H8.out
                    have hrun9 : (addP (n + 1)).run s m = ((helpP dq).bind (addK9 ⟨xh, d.e, true, 0⟩)).run s7 m7 := hrun8
                    rcases hE.cases with ⟨t9, G9, s9, m9, ho9, rfl, ha9⟩ | ⟨t9, G9, s9, m9, q, v, ho9, rfl, rfl, ha9⟩
                    · have HE : Hid (Ev w0 b c r pb po t G w RAdd ((addP (n + 1)).run s m) (Halt pb po) w9) := Ev.die (by rw [hrun9, Pr.bind_none ho9]) (hA8.trans ha9)
                      clear hh hE ho9 ha9 hrun8 kp7 hA8 hd8 ld8 hiq hrun9 H8
                      unfold Halt
                      go_wp2
                      exact ⟨rfl, HE.out⟩
                    · rw [Pr.bind_some ho9] at hrun9
                      have k0 := (ha9.cells ld8 hd8).1.cells.1
                      by_cases hq : q = 0
                      · subst hq
                        have HE : Hid (Ev w0 b c r pb po t G w RAdd ((addP (n + 1)).run s m) (.returned (.iface 3 (.int .i64 (wrap64 (d.ver + 1))))) w9) := Ev.ret (a := wrap64 (d.ver + 1)) (by rw [hrun9]; unfold addK9; rw [if_pos rfl]; simp only [Pr.run]; rfl) rfl (hA8.trans ha9)
                        clear hh hE ho9 ha9 hrun8 kp7 hA8 hd8 ld8 hiq hrun9 H8 j0 j1 j2 j3
                        go_wp2_with fail
                        go_ret
                        exact HE.out
                      · have HE : Hid (Ev w0 b c r pb po t G w RAdd ((addP (n + 1)).run s m) (.returned (.iface 3 (.int .i64 (-1)))) w9) := Ev.ret (a := -1) (by rw [hrun9]; unfold addK9; rw [if_neg hq]; simp only [Pr.run]) rfl (hA8.trans ha9)
                        clear hh hE ho9 ha9 hrun8 kp7 hA8 hd8 ld8 hiq hrun9 H8 j0 j1 j2 j3 k0
                        go_wp2
                        go_ret
                        exact HE.out
                  · obtain ⟨hrun8, kp7, hA8, hd8, ld8, hiq⟩ := H8.out
                    have HE : Hid (Ev w0 b c r pb po t G w RAdd ((addP (n + 1)).run s m) (.returned (.iface 3 (.int .i64 (-1)))) w8) := Ev.ret (a := -1) (by rw [hrun8]; unfold addK7; rw [if_neg hke]; simp only [Pr.run]) rfl hA8
                    clear hrun8 kp7 hA8 hd8 ld8 hiq H8 j0 j1 j2 j3 k0
                    go_wp2_with (first | rw [HW8.out] | fail)
                    go_ret
                    exact HE.out
            · obtain ⟨hrun7, kp6, lt6, hlf, hA6, hav6, hd6, ld6⟩ := H6.out
              have HE : Hid (Ev w0 b c r pb po t G w RAdd ((addP (n + 1)).run s m) (.returned (.iface 3 (.int .i64 (-1)))) w6) := Ev.ret (a := -1) (by rw [hrun7]; unfold addK6; rw [if_neg hpe]; simp only [Pr.run]) rfl hA6
              clear hrun7 kp6 lt6 hlf hA6 hav6 hd6 ld6 H6 HM
              go_wp2
              go_ret
              exact HE.out
          · obtain ⟨hrun5, kp5, lt5, hlf, hA5, hav5, hd5, ld5⟩ := H5.out
            have HE : Hid (Ev w0 b c r pb po t G w RAdd ((addP (n + 1)).run s m) (.returned (.iface 3 (.int .i64 (-1)))) w5) := Ev.ret (a := -1) (by rw [hrun5]; unfold addK5; rw [if_neg hok]; simp only [Pr.run]) rfl hA5
            clear hrun5 kp5 lt5 hlf hA5 hav5 hd5 ld5 H5 HM y1
            by_cases hae : a.err = 0
            · have hge : ¬ g2 = 0 := fun e => hok ⟨hae, e⟩
              rw [hae]
              clear hok
              go_wp2
              go_ret
              exact HE.out
            · clear hok
              go_wp2
              go_ret
              exact HE.out
      · obtain ⟨hrun2, kp2, lt2, hlf, hA3, hav3, hd3, ld3, hdi⟩ := H3.out
        rw [addK_err _ _ _ _ _ herr] at hrun2
        have HE : Hid (Ev w0 b c r pb po t G w RAdd ((addP (n + 1)).run s m) (.returned (.iface 3 (.int .i64 (-1)))) w3) := Ev.ret (a := -1) (by rw [hrun2]; simp only [Pr.run]) rfl hA3
        clear hrun2 kp2 lt2 hlf hA3 hav3 hd3 ld3 hdi H3 HM k0 k1 k2 k3 y1 y2 c4
        go_wp2_with (first | rw [HW3.out] | fail)
        go_ret
        exact HE.out
end
end Go.Proofs.YteiikkkcjpfapaaDoor
/- DescCounts's machines: what is true of all between two steps, and that a step of any keeps it. Conditions: at most 14000 asks, at most 6 machines. -/
namespace Go.Proofs.YteiikkkcjpfapaaDoor
open Go.RowKit Go.Op
set_option maxRecDepth 100000

def caps26 (zy : Nat) : Value := .func (.func 26) #[] #[.pointer (some ⟨zy, 0, none⟩)]
theorem enter_26 (xs : Array Value) (w : World) : (callFunc 26 xs).run Tryd.prog w = .ok (.enter 26 xs) w := by kernel_rfl
theorem clo26 {C : Int} {w0 : World} {b c r pb po : Nat} {t : Value} {G : List (Nat × List Sw)} {w : World} {m : M} {s : Pt} (hC : C ≤ 600000) (h : SysE w0 b c r pb po t G w m s) (hT : TabAt w0) (hk : Kp C s m) (n : Nat) (hn : left s ≤ n) (zy gh cap : Nat) (hy : YVar w zy b 3 (.slice (some ⟨gh, 0, none⟩) 1 cap)) (hg : Loc w0 b c r pb t G w gh) (hc : w.cell? ⟨gh, 0, none⟩ = some (.int .i64 4)) :
    Calls Tryd.prog 26 #[.pointer (some ⟨pb, po, none⟩), .pointer (some ⟨zy, 0, none⟩)] w fun e w' => Ev w0 b c r pb po t G w RAdd ((addP (n + 1)).run s m) e w' := by
  have ha := add_E hC h hT hk n hn gh cap hg hc
  have y0 := hy.c0
  have y1 := hy.c1
  have y2 := hy.c2
  clear h hT hk hn hy hg hc
  go_enter Tryd.func26, Tryd.ntmps26
  go_wp2_with fail
  refine ha.mono ?_
  rintro e w1 hE
  rcases hE.cases with ⟨t1, G1, s1, m1, ho, rfl, ha⟩ | ⟨t1, G1, s1, m1, a, v, ho, rfl, rfl, ha⟩
  · have HE : Hid (Ev w0 b c r pb po t G w RAdd ((addP (n + 1)).run s m) (Halt pb po) w1) := Ev.die ho ha
    clear hE ho ha
    unfold Halt
    go_wp2
    exact ⟨rfl, HE.out⟩
  · have HE : Hid (Ev w0 b c r pb po t G w RAdd ((addP (n + 1)).run s m) (.returned (.iface 3 (.int .i64 a))) w1) := Ev.ret ho rfl ha
    clear hE ho ha
    go_wp2_with fail
    go_ret
    exact HE.out
def FF : Nat := 20000
/-- Between two steps. -/
structure Cs (w0 : World) (b c r : Nat) (G : List (Nat × List Sw)) (zy gh cap : Nat) (m : M) (γ : Gs) (ow : Int → Who) (S : List Stg) (cc : Int) (L : List Mach) (rv : Value) (W : World) : Prop where
  cr : Crew w0 b c r G W m L rv
  yv : YVar W zy b 3 (.slice (some ⟨gh, 0, none⟩) 1 cap)
  c4 : W.cell? ⟨gh, 0, none⟩ = some (.int .i64 4)
  my : Mine w0 b c r G W L rv zy ∧ Mine w0 b c r G W L rv gh
  gw : Gw m γ ow S cc
  ln : S.length = L.length
  ms : ∀ (i : Nat) (y : Mach), L[i]? = some y → ∃ st, S[i]? = some st ∧ (y.fin = false → y.f = caps26 zy ∧ y.s.keeps = true ∧ Lg FF y.s.e.told st ∧ (y.s.e.told.length : Int) ≤ cc) ∧ (y.fin = true → ∃ v : Nat, st = .sz v ∧ y.out = .iface 3 (.int .i64 (v : Int)))
section
variable {w0 : World} {b c r : Nat} {G G' : List (Nat × List Sw)} {zy gh cap : Nat} {m m' : M} {γ : Gs} {ow : Int → Who} {S : List Stg} {cc : Int} {L L' : List Mach} {rv rv' : Value} {W W' : World}
theorem Cs.move (h : Cs w0 b c r G zy gh cap m γ ow S cc L rv W) {γ' : Gs} {ow' : Int → Who} {S' : List Stg} {cc' : Int} (cr : Crew w0 b c r G' W' m' L' rv') (hk : ∀ z, Mine w0 b c r G W L rv z → Mine w0 b c r G' W' L' rv' z ∧ W'.heap[z]? = W.heap[z]?) (gw : Gw m' γ' ow' S' cc') (ln : S'.length = L'.length)
    (ms : ∀ (i : Nat) (y : Mach), L'[i]? = some y → ∃ st, S'[i]? = some st ∧ (y.fin = false → y.f = caps26 zy ∧ y.s.keeps = true ∧ Lg FF y.s.e.told st ∧ (y.s.e.told.length : Int) ≤ cc') ∧ (y.fin = true → ∃ v : Nat, st = .sz v ∧ y.out = .iface 3 (.int .i64 (v : Int)))) : Cs w0 b c r G' zy gh cap m' γ' ow' S' cc' L' rv' W' := by
  obtain ⟨m1, m2⟩ := h.my
  exact ⟨cr, h.yv.same (hk _ m1).2, (World.cell?_of_block (w := W) (a := ⟨gh, 0, none⟩) (hk _ m2).2).trans h.c4, ⟨(hk _ m1).1, (hk _ m2).1⟩, gw, ln, ms⟩
theorem Cs.later (h : Cs w0 b c r G zy gh cap m γ ow S cc L rv W) (hb : Below W.heap.size W W') : Cs w0 b c r G zy gh cap m γ ow S cc L rv W' :=
  h.move (h.cr.later hb) (fun z hz => ⟨hz.later hb.size, hb.block z hz.loc.lt⟩) h.gw h.ln h.ms
theorem Cs.aside {z : Nat} (h : Cs w0 b c r G zy gh cap m γ ow S cc L rv W) (hb : But z W W') (hz : Mine w0 b c r G W L rv z) (hne : z ≠ zy ∧ z ≠ gh) : Cs w0 b c r G zy gh cap m γ ow S cc L rv W' := by
  obtain ⟨m1, m2⟩ := h.my
  exact ⟨h.cr.aside hb hz, h.yv.same (hb.block _ m1.loc.lt hne.1.symm), (World.cell?_of_block (w := W) (a := ⟨gh, 0, none⟩) (hb.block _ m2.loc.lt hne.2.symm)).trans h.c4, ⟨m1.later hb.size, m2.later hb.size⟩, h.gw, h.ln, h.ms⟩
theorem Cs.mem (h : Cs w0 b c r G zy gh cap m γ ow S cc L rv W) (k : Nat) (hh : HasE w0 b c r G' W' (m.more k)) (hb : ButN [b, c, r] W.heap.size W W') (hg : Grow W G G') : Cs w0 b c r G' zy gh cap (m.more k) γ ow S (cc + k) L rv W' :=
  h.move (h.cr.mem hh hb hg (.inl (by simp only [M.more]; omega))) (fun _ hz => hz.mem hb hg) (h.gw.more k) h.ln fun i y hi => by
    obtain ⟨st, h1, h2, h3⟩ := h.ms i y hi
    exact ⟨st, h1, fun e => let ⟨q1, q2, q3, q4⟩ := h2 e; ⟨q1, q2, q3, by omega⟩, h3⟩
theorem tot_app (f : Stg → Nat) : ∀ l k : List Stg, tot f (l ++ k) = tot f l + tot f k
  | [], k => by simp [tot]
  | x :: l, k => by rw [List.cons_append, tot, tot, tot_app f l k]; omega
theorem Gw.add (h : Gw m γ ow S cc) (hl : S.length ≤ 5) : Gw m γ ow (S ++ [.s0]) cc := by
  have key : ∀ (j : Nat) (s : Stg), (S ++ [Stg.s0])[j]? = some s → S[j]? = some s ∨ s = .s0 := fun j s hs => by
    rw [List.getElem?_append] at hs
    split at hs
    · exact .inl hs
    · have hj := (List.getElem?_eq_some_iff.1 hs).1
      simp at hj
      have e0 : j - S.length = 0 := by omega
      rw [e0] at hs
      simp at hs
      exact .inr hs.symm
  refine ⟨h.tidy, h.len, h.cnt, ?_, by simp; omega, ?_, h.chn, fun i st hi => ?_, fun i st v hi hv => ?_, fun i j st st' v hi hj hv hv' => ?_⟩
  · rw [tot_app, tot_app]
    have := h.live
    simp only [tot, Stg.pub, Stg.npr]
    omega
  · rw [tot_app]
    have := h.chl
    simp only [tot, Stg.pub]
    omega
  · rcases key i st hi with e | rfl
    · exact h.cond i st e
    · trivial
  · rcases key i st hi with e | rfl
    · exact h.ver i st v e hv
    · cases hv
  · rcases key i st hi with e | rfl
    · rcases key j st' hj with e2 | rfl
      · exact h.uniq i j st st' v e e2 hv hv'
      · cases hv'
    · cases hv
theorem Cs.add {w2 : World} (h : Cs w0 b c r G zy gh cap m γ ow S cc L rv W) (hl : L.length ≤ 5) (h0 : 0 ≤ cc) (hb : Below (W.alloc (machObj b (caps26 zy))).heap.size (W.alloc (machObj b (caps26 zy))) w2)
    (own : W'.ownsRow w0.heap.size 56 1 rv' (L.length + 1) (ptrs L ++ [.pointer (some ⟨W.heap.size, 0, none⟩)])) (hg : w2.grownBy W' rv.ownBlock) (hn : rv'.ownBlock = rv.ownBlock ∨ rv'.ownBlock = some w2.heap.size) :
    Cs w0 b c r G zy gh cap m γ ow (S ++ [.s0]) cc (L ++ [mach0 W.heap.size (caps26 zy)]) rv' W' := by
  refine h.move (h.cr.add hb own hg hn) (fun z hz => hz.add hb hg hn) (h.gw.add (by rw [h.ln]; exact hl)) (by simp [h.ln]) fun i y hi => ?_
  rw [List.getElem?_append] at hi
  split at hi
  · obtain ⟨st, h1, h2⟩ := h.ms i y hi
    refine ⟨st, ?_, h2⟩
    rw [List.getElem?_append, if_pos (List.getElem?_eq_some_iff.1 h1).1]; exact h1
  · have hj := (List.getElem?_eq_some_iff.1 hi).1
    simp at hj
    obtain rfl : i = L.length := by omega
    simp at hi
    subst hi
    exact ⟨.s0, by rw [← h.ln]; simp, fun _ => ⟨rfl, rfl, Lg.start FF, by simp [mach0, Pt.e]; exact h0⟩, fun e => (by cases e)⟩
/-- What a step comes to. -/
structure CStep (w0 : World) (b c r : Nat) (zy gh cap : Nat) (γ : Gs) (S : List Stg) (cc : Int) (L : List Mach) (rv : Value) (i : Nat) (y : Mach) (st : Stg) (w' : World) (G' : List (Nat × List Sw)) (m' : M) (γ' : Gs) (ow' : Int → Who) (st' : Stg) (L' : List Mach) (y' : Mach) : Prop where
  cs : Cs w0 b c r G' zy gh cap m' γ' ow' (S.set i st') (cc + 1) L' rv w'
  at_ : L'[i]? = some y'
  xb : y'.xb = y.xb
  ln : L'.length = L.length
  mu : mu γ' st' < mu γ st
  fin : y'.fin = true → ∃ v : Nat, st' = .sz v ∧ y'.out = .iface 3 (.int .i64 (v : Int))
  hk : ∀ z W G, Mine w0 b c r G W L rv z → True
theorem fresh_e {s : Pt} (h : s.keeps = true) : Fresh s.fresh.e := ⟨h, rfl, rfl⟩
theorem Cs.step (h : Cs w0 b c r G zy gh cap m γ ow S cc L rv W) (hT : TabAt w0) (hcc : cc ≤ 14000) {i : Nat} {y : Mach} (hi : L[i]? = some y) (hfin : y.fin = false) :
    ∃ st, S[i]? = some st ∧ (∀ v, st ≠ .sz v) ∧ Calls Tryd.prog 23 #[.pointer (some ⟨y.xb, 0, none⟩)] W fun e w' => ∃ G' m' γ' ow' st' L' y', e = .returned (.bool y'.fin) ∧ CStep w0 b c r zy gh cap γ S cc L rv i y st w' G' m' γ' ow' st' L' y' ∧ ∀ z, Mine w0 b c r G W L rv z → Mine w0 b c r G' w' L' rv z ∧ w'.heap[z]? = W.heap[z]? := by
  obtain ⟨st, hst, h2, -⟩ := h.ms i y hi
  obtain ⟨f1, f2, f3, f4⟩ := h2 hfin
  refine ⟨st, hst, f3.live, ?_⟩
  have et : y.s.fresh.e.told = y.s.e.told := rfl
  obtain ⟨o, s', m', γ', ow', st', hrun, hg, hmu, hout⟩ := Lg.step h.gw (by omega) hst (fresh_e f2) (by rw [et]; exact f3) (by rw [et]; unfold FF; omega)
  have hcm := hg.cnt
  have hcn := h.gw.cnt
  have hkp : s'.keeps = true := by
    have := (Pr.run_facts (addP (FF + 1)) y.s.fresh.e m).keeps
    rw [hrun] at this
    exact this.trans f2
  refine (h.cr.tm.step hi hfin f1 enter_26 (addP (FF + 1)) (fun a v => v = .iface 3 (.int .i64 a)) (fun a v e => ⟨_, _, e⟩) (o, s', m') hrun (by simp only; omega) (fun w1 hS hB => ?_)).mono ?_
  · have h1 := (h.my.1.off.x i y hi).1
    have h3 := h.my.2.off.x i y hi
    have hy := h.yv.same (hB.block zy h.my.1.loc.lt h1)
    have k2 := hB.block gh h.my.2.loc.lt h3.1
    have hK : Kp (cc + 1) y.s.fresh.e m := ⟨f2, Nat.zero_le _, by simp [Pt.fresh, Pt.e]; omega⟩
    have hgl : Loc w0 b c r y.xb y.t G w1 gh := ⟨Nat.lt_of_lt_of_le h.my.2.loc.lt hB.size, h.my.2.loc.ge, ⟨h.my.2.loc.ne.1, h.my.2.loc.ne.2.1, h.my.2.loc.ne.2.2, h3.1⟩, h3.2, h.my.2.loc.ng⟩
    have := clo26 (by omega) hS hT hK FF (by
      have : left y.s.fresh.e = y.s.e.told.length + 1 := by simp [left, Pt.fresh, Pt.e]
      rw [this]; unfold FF; omega) zy gh cap hy hgl ((World.cell?_of_block (w := W) (a := ⟨gh, 0, none⟩) k2).trans h.c4)
    rw [hrun] at this
    exact this
  · rintro e w' ⟨y', G', hs⟩
    have hlt := (List.getElem?_eq_some_iff.1 hi).1
    have hltS := (List.getElem?_eq_some_iff.1 hst).1
    have hmine : ∀ z, Mine w0 b c r G W L rv z → Mine w0 b c r G' w' (L.set i y') rv z ∧ w'.heap[z]? = W.heap[z]? := fun z hz => hz.step hi hs
    have hms : ∀ (fx : (y'.fin = false → y'.f = caps26 zy ∧ y'.s.keeps = true ∧ Lg FF y'.s.e.told st' ∧ (y'.s.e.told.length : Int) ≤ cc + 1) ∧ (y'.fin = true → ∃ v : Nat, st' = .sz v ∧ y'.out = .iface 3 (.int .i64 (v : Int)))), CStep w0 b c r zy gh cap γ S cc L rv i y st w' G' m' γ' ow' st' (L.set i y') y' := fun fx => by
      refine ⟨h.move (h.cr.step hi hs) hmine hg (by rw [List.length_set, List.length_set]; exact h.ln) fun j z hz => ?_, List.getElem?_set_self hlt, hs.xb, List.length_set .., hmu, fx.2, fun _ _ _ _ => trivial⟩
      rcases setg hz with ⟨rfl, rfl⟩ | ⟨hne, hz⟩
      · exact ⟨st', List.getElem?_set_self hltS, fx.1, fx.2⟩
      · obtain ⟨sz, h1, h2, h3⟩ := h.ms j z hz
        refine ⟨sz, by rw [List.getElem?_set_ne (fun e => hne e.symm)]; exact h1, fun e => let ⟨q1, q2, q3, q4⟩ := h2 e; ⟨q1, q2, q3, by omega⟩, h3⟩
    rcases hs.out with ⟨a, ea, rfl, q1, q2⟩ | ⟨ea, rfl, q1, q2, q3, q4⟩
    · rcases hout with ⟨e1, _⟩ | ⟨v, e1, e2⟩
      · simp only at ea
        rw [e1] at ea; cases ea
      · simp only at ea
        rw [e1] at ea
        cases ea
        refine ⟨G', m', γ', ow', st', _, y', by rw [q1], hms ⟨fun e => (by rw [q1] at e; cases e), fun _ => ⟨v, e2, q2⟩⟩, hmine⟩
    · rcases hout with ⟨e1, e2, e3⟩ | ⟨v, e1, e2⟩
      · refine ⟨G', m', γ', ow', st', _, y', by rw [q1], hms ⟨fun _ => ⟨q2.trans f1, ?_, by rw [q4]; exact e2, ?_⟩, fun e => (by rw [q1] at e; cases e)⟩, hmine⟩
        · have : y'.s.e.keeps = true := by rw [q4]; exact hkp
          exact this
        · rw [q4]
          simp only
          rw [e3, et]
          push_cast; omega
      · simp only at ea
        rw [e1] at ea; cases ea
end
end Go.Proofs.YteiikkkcjpfapaaDoor
/- DescCounts's start: memory behind Lay. No condition. -/
namespace Go.Proofs.YteiikkkcjpfapaaDoor
open Go.RowKit Go.Op
set_option maxRecDepth 100000

theorem Bys.nat {w W : World} {a : Option Addr} {T : List Int} (h : Bys w a T) (hb : Below w.heap.size w W) {k : Nat} (hk : k < T.length) : ∃ (pb off xn : Nat), a = some ⟨pb, off, none⟩ ∧ W.cell? ⟨pb, off + k, none⟩ = some (.int .u8 (xn : Int)) ∧ xn ≤ 255 := by
  obtain ⟨pb, off, ea, x1, x2, x3⟩ := h.at_ hb hk
  generalize T[k] = q at x1 x2 x3
  exact ⟨pb, off, q.toNat, ea, by rw [x1, show ((q.toNat : Nat) : Int) = q by omega], by omega⟩
/-- A block of the law's own, wherever the heap ends. -/
structure MineP (w0 : World) (b c r : Nat) (G : List (Nat × List Sw)) (L : List Mach) (rv : Value) (z : Nat) : Prop where
  ge : w0.heap.size ≤ z
  ne : z ≠ b ∧ z ≠ c ∧ z ≠ r
  ng : ∀ x, x ∈ G → x.1 ≠ z
  x : ∀ (i : Nat) (x : Mach), L[i]? = some x → z ≠ x.xb ∧ x.t.ownBlock ≠ some z
  nr : rv.ownBlock ≠ some z
section
variable {w0 : World} {b c r : Nat} {G G' : List (Nat × List Sw)} {w w' : World} {m m' : M} {L : List Mach} {rv : Value} {z : Nat}
theorem Mine.p (h : Mine w0 b c r G w L rv z) : MineP w0 b c r G L rv z := ⟨h.loc.ge, h.loc.ne, h.loc.ng, h.off.x, h.nr⟩
theorem MineP.mine (h : MineP w0 b c r G L rv z) (hz : z < w.heap.size) : Mine w0 b c r G w L rv z := ⟨⟨hz, h.ge, h.ne, h.ng⟩, ⟨hz, h.ne, h.x⟩, h.nr⟩
theorem Crew.newP (h : Crew w0 b c r G w m L rv) (hz : w.heap.size ≤ z) : MineP w0 b c r G L rv z := by
  obtain ⟨m0, q1, q2, q3, q4, q5, q6⟩ := id h.tm
  have o := q1.has.at_.own
  have b1 := o.lb
  have b2 := o.lc
  have b3 := o.lr
  refine ⟨Nat.le_trans q1.has.below.size hz, ⟨by omega, by omega, by omega⟩, fun x hx e => by have := (q5 x.1 x.2 hx).1.lt; omega, fun i x hx => ?_, fun e => by have := (World.ownsRow.lt h.row _ e).2; omega⟩
  have p := (q1.mac i x hx).sys.pt
  have p1 := p.lt
  exact ⟨by omega, fun e => by have := (World.ownsRow.lt p.own _ e).2; omega⟩
end
def m100 : M := (layS (initP.go (M.new 100)).2 1).1
theorem hs100_is : (layS (initP.go (M.new 100)).2 1).2 = [4] := by decide +kernel
theorem lay100 : (initP.go (M.new 100)).1 = (3, 0) ∧ (initP.go (M.new 100)).2.count ≤ 1000 ∧ ∀ i : Nat, i < 1 → ((layS (initP.go (M.new 100)).2 i).1.alloc (.word i)).2.2 = 0 := by
  refine ⟨by decide +kernel, by decide +kernel, by decide +kernel⟩
theorem m100_all : (m100.cells.all fun x => decide (0 ≤ x.gen ∧ x.gen ≤ m100.count)) = true ∧ m100.live = 4 ∧ m100.count = 4 ∧ m100.cells.length = 100 ∧ (m100.cells.countP fun x => x.held.busy) = 4 := by
  refine ⟨by kernel_rfl, by kernel_rfl, by kernel_rfl, by kernel_rfl, by kernel_rfl⟩
theorem look100 : m100.look 3 = some (.word 2) ∧ m100.look 2 = some (.desc ⟨0, 0, 1, [], none, 0, 0⟩) ∧ m100.look 1 = some (.word 1) ∧ m100.look 4 = some (.word 0) := by
  refine ⟨by kernel_rfl, by kernel_rfl, by kernel_rfl, by kernel_rfl⟩
def gs0 : Gs := ⟨[(2, 1)], true, 0⟩
def ow0 (x : Int) : Who := if x = 3 then .top else if x = 4 then .cell else if x = 2 then .ch 0 else if x = 1 then .cs 0 else .no
theorem gw100 : Gw m100 gs0 ow0 [] 4 := by
  obtain ⟨h1, h2, h3, h4, h5⟩ := m100_all
  obtain ⟨q3, q2, q1, q4⟩ := look100
  refine ⟨⟨fun i x hx => ?_, by rw [h2, h5]; rfl, by rw [h3]; decide⟩, h4, by rw [h3]; decide, by rw [h2]; rfl, by decide, rfl, ⟨by decide, fun p hp => ?_, fun k p hp => ?_, q4, .inl rfl, fun _ => rfl, rfl, rfl⟩, fun i st hi => (by simp at hi), fun i st v hi => (by simp at hi), fun i j st st' v hi => (by simp at hi)⟩
  · have := List.all_eq_true.1 h1 x (List.mem_of_getElem? hx)
    simpa using this
  · cases hp
    exact q3
  · match k, hp with
    | 0, hp =>
      cases hp
      exact ⟨q2, q1, rfl, rfl⟩
    | k + 1, hp => simp [gs0] at hp
section
variable {w0 : World} {b c r : Nat} {G : List (Nat × List Sw)} {zy gh cap : Nat} {m : M} {γ : Gs} {ow : Int → Who} {S : List Stg} {cc : Int} {L : List Mach} {rv : Value} {W W' : World}
theorem Cs.weak (h : Cs w0 b c r G zy gh cap m γ ow S cc L rv W) {c2 : Int} (hc : cc ≤ c2) : Cs w0 b c r G zy gh cap m γ ow S c2 L rv W :=
  ⟨h.cr, h.yv, h.c4, h.my, ⟨h.gw.tidy, h.gw.len, by have := h.gw.cnt; omega, h.gw.live, h.gw.few, h.gw.chl, h.gw.chn, h.gw.cond, h.gw.ver, h.gw.uniq⟩, h.ln, fun i y hi => by
    obtain ⟨st, h1, h2, h3⟩ := h.ms i y hi
    exact ⟨st, h1, fun e => let ⟨q1, q2, q3, q4⟩ := h2 e; ⟨q1, q2, q3, by omega⟩, h3⟩⟩
/-- The version, and the cell's word. -/
theorem Gw.said (h : Gw m γ ow S cc) : ∃ v q : Int, (if γ.dn = true then (γ.K : Int) else ((γ.K - 1 : Nat) : Int)) = v ∧ (γ.cw : Int) = q ∧ 0 ≤ v ∧ v ≤ 6 ∧ ((q == v) = true ∧ (q != v) = false ∨ (q == v) = false ∧ (q != v) = true ∧ (q == v + 1) = true ∧ (q != v + 1) = false) := by
  have hK := h.K_le
  refine ⟨_, _, rfl, rfl, ?_, ?_, ?_⟩
  · split <;> omega
  · split <;> omega
  · rcases h.chn.cw with e | ⟨e1, e2⟩
    · cases hd : γ.dn with
      | true => rw [if_pos rfl, e]; exact .inl ⟨by simp, by simp⟩
      | false =>
        have : γ.K ≠ 0 := fun e0 => by
          have := h.chn.k0 e0
          rw [hd] at this; cases this
        rw [if_neg (by decide), e]
        refine .inr ⟨beq_eq_false_iff_ne.2 (by omega), bne_iff_ne.2 (by omega), beq_iff_eq.2 (by omega), ?_⟩
        rw [show ((γ.K : Nat) : Int) = ((γ.K - 1 : Nat) : Int) + 1 by omega]; simp
    · rw [e1, if_neg (by decide)]
      refine .inl ⟨beq_iff_eq.2 (by omega), ?_⟩
      rw [show ((γ.cw : Nat) : Int) = ((γ.K - 1 : Nat) : Int) by omega]; simp
/-- Which versions were seen. -/
structure SeenC (W : World) (zs : Nat) (S : List Stg) (f : Nat → Bool) : Prop where
  cells : ∀ z, z < 8 → W.cell? ⟨zs, z, none⟩ = some (.bool (f z))
  fz : ∀ z, W.frozen? ⟨zs, z, none⟩ = false
  old : ∀ z, f z = true → ∃ j : Nat, S[j]? = some (.sz z)
theorem SeenC.same {zs : Nat} {f : Nat → Bool} (h : SeenC W zs S f) (hk : W'.heap[zs]? = W.heap[zs]?) : SeenC W' zs S f :=
  ⟨fun z hz => (World.cell?_of_block (w := W) (a := ⟨zs, z, none⟩) hk).trans (h.cells z hz), fun z => (World.frozen?_of_block (w := W) (a := ⟨zs, z, none⟩) hk).trans (h.fz z), h.old⟩
def seenObj : Obj := .cells #[.bool false, .bool false, .bool false, .bool false, .bool false, .bool false, .bool false, .bool false] 60
theorem seen_start : SeenC (W.alloc seenObj) W.heap.size S (fun _ => false) := by
  refine ⟨fun z hz => ?_, fun z => World.frozen?_alloc_at _ 60 _ z rfl, fun z h => (by cases h)⟩
  unfold seenObj
  rw [World.cell?_alloc_new]
  match z, hz with
  | 0, _ => rfl
  | 1, _ => rfl
  | 2, _ => rfl
  | 3, _ => rfl
  | 4, _ => rfl
  | 5, _ => rfl
  | 6, _ => rfl
  | 7, _ => rfl
theorem SeenC.put {zs : Nat} {f : Nat → Bool} (h : SeenC W zs S f) {z j : Nat} (hz : z < 8) (hj : S[j]? = some (.sz z)) : SeenC (W.setCell ⟨zs, z, none⟩ (.bool true)) zs S (fun y => if y = z then true else f y) := by
  refine ⟨fun y hy => ?_, fun y => by rw [World.frozen?_setCell]; exact h.fz y, fun y hy => ?_⟩
  · by_cases e : y = z
    · subst e
      rw [if_pos rfl]
      exact set_same (h.cells y hy)
    · rw [if_neg e]
      exact set_other (h.cells y hy) (.inr (fun e2 => e e2.symm))
  · by_cases e : y = z
    · subst e
      exact ⟨j, hj⟩
    · simp only [if_neg e] at hy
      exact h.old y hy
/-- Another stage of one who wasn't there yet. -/
theorem SeenC.turn {zs : Nat} {f : Nat → Bool} (h : SeenC W zs S f) {i : Nat} {st st' : Stg} (hi : S[i]? = some st) (hz : ∀ v, st ≠ .sz v) : SeenC W zs (S.set i st') f := by
  refine ⟨h.cells, h.fz, fun z hf => ?_⟩
  obtain ⟨j, hj⟩ := h.old z hf
  have hne : i ≠ j := fun e => by
    rw [e, hj] at hi
    cases hi; exact hz z rfl
  exact ⟨j, by rw [List.getElem?_set_ne hne]; exact hj⟩
/-- A version that has just come up wasn't seen. -/
theorem SeenC.new {zs : Nat} {f : Nat → Bool} {m' : M} {γ' : Gs} {ow' : Int → Who} {c2 : Int} (h : SeenC W zs S f) {i v : Nat} {st : Stg} (hi : S[i]? = some st) (hz : ∀ v, st ≠ .sz v) (hg : Gw m' γ' ow' (S.set i (.sz v)) c2) : f v = false ∧ 1 ≤ v ∧ v ≤ S.length := by
  have hlt := (List.getElem?_eq_some_iff.1 hi).1
  have hv := hg.ver i (.sz v) v (List.getElem?_set_self hlt) rfl
  have hp := tot_le Stg.pub 1 pub_le (S.set i (.sz v))
  have hc := hg.chl
  rw [List.length_set] at hp
  refine ⟨?_, hv.1, by have := hv.2; unfold Gs.K at this; omega⟩
  cases hf : f v with
  | false => rfl
  | true =>
    obtain ⟨j, hj⟩ := h.old v hf
    have hne : i ≠ j := fun e => by
      rw [e, hj] at hi
      cases hi; exact hz v rfl
    exact absurd (hg.uniq i j (.sz v) (.sz v) v (List.getElem?_set_self hlt) (by rw [List.getElem?_set_ne hne]; exact hj) rfl rfl) hne
end
end Go.Proofs.YteiikkkcjpfapaaDoor
/- DescCounts's walk. Condition: the library's table stands. -/
namespace Go.Proofs.YteiikkkcjpfapaaDoor
open Go.RowKit Go.Op
set_option maxRecDepth 100000

set_option maxHeartbeats 1000000 in
theorem counts_law (W : World) (hT : TabAt W) (n kk : Nat) (hn : n ≤ 255) (hkk : kk ≤ 255) (a1 : Option Addr) (l1 : List Int) (cap1 : Nat) (hl1 : Bys W a1 l1) :
    Calls Tryd.prog 5 #[.int .u8 (n : Int), .slice a1 l1.length cap1, .int .u8 (kk : Int)] W fun e w' => e = .returned (.bool true) ∧ Below W.heap.size W w' := by
  obtain ⟨k1, hk1⟩ : ∃ k, k = l1.length := ⟨_, rfl⟩
  have haw := awake_any W hT
  have HN := Lib.hid (⟨hk1, hl1, hT⟩ : _ ∧ _ ∧ _)
  rw [← hk1]
  have hn2 : (n : Int) ≤ 255 := by omega
  have hkk2 : (kk : Int) ≤ 255 := by omega
  clear hk1 hl1 hT hn hkk
  go_enter Tryd.func5, Tryd.ntmps5
  go_wp2_with fail
  refine haw.mono ?_
  rintro e w1 ⟨rfl, hb1⟩
  have HB1 := Lib.hid hb1
  clear haw hb1
  by_cases hlen1 : k1 ≤ 400
  · have hl1 : (k1 : Int) ≤ 400 := by omega
    obtain ⟨e0, e1, e2⟩ := lay100
    have hla := lay_any w1 (HN.out.2.2.below HB1.out) 100 1 (by decide) (by decide) (by decide) (by rw [e0]) e1 e2
    clear e1 e2
    go_wp2_with fail
    refine hla.mono ?_
    rintro e w3 ⟨⟨b, c, r, G, v, rfl, hE, hN⟩, hb3⟩
    rw [hs100_is] at hN
    rw [e0]
    obtain ⟨a, cap, rfl, hrow⟩ := hN
    simp only [List.length_cons, List.length_nil, Nat.zero_add] at hrow ⊢
    obtain ⟨gh, rfl, lgh, hgh⟩ : ∃ g, a = some ⟨g, 0, none⟩ ∧ LocM w1 b c r G w3 g ∧ w3.cell? ⟨g, 0, none⟩ = some (.int .i64 4) := by
      rcases hrow with e | ⟨g, e, hl, hc⟩
      · exact absurd e (by decide)
      · exact ⟨g, e, hl, hc 0 4 rfl⟩
    obtain ⟨w4, hw4⟩ : ∃ V, V = w3.alloc (yobj b 3 (some ⟨gh, 0, none⟩) 1 cap) := ⟨_, rfl⟩
    have b4 : Below w3.heap.size w3 w4 := by rw [hw4]; exact (Below.refl _ _).alloc (Nat.le_refl _) _
    have y4 : YVar w4 w3.heap.size b 3 (.slice (some ⟨gh, 0, none⟩) 1 cap) := by rw [hw4]; exact ynew w3 b 3 (some ⟨gh, 0, none⟩) 1 cap
    have ly4 : LocM w1 b c r G w4 w3.heap.size := by rw [hw4]; exact hE.fresh _
    obtain ⟨zy, hzy⟩ : ∃ z, z = w3.heap.size := ⟨_, rfl⟩
    have HH : Hid (Cs w1 b c r G zy gh cap m100 gs0 ow0 [] 4 [] (.slice none 0 0) w4 ∧ zy ≠ gh) := by
      rw [hzy]
      exact ⟨⟨Crew.nil (hE.later b4), y4, (b4.cell (p := ⟨gh, 0, none⟩) lgh.lt).trans hgh, ⟨ly4.mine0, (lgh.later b4.size (Grow.refl _ _)).mine0⟩, gw100, rfl, fun i y hi => (by simp at hi)⟩, by have := lgh.lt; omega⟩
    have HW : Hid (w3.alloc (.cells #[.pointer (some ⟨b, 0, none⟩), .int .i64 3, .slice (some ⟨gh, 0, none⟩) 1 cap] 27) = w4) := by rw [hw4]; rfl
    have HT1 : Hid (TabAt w1) := HN.out.2.2.below HB1.out
    have HBW : Hid (∀ G m γ ow S cc L rv V, Cs w1 b c r G zy gh cap m γ ow S cc L rv V → Below W.heap.size W V) := fun G m γ ow S cc L rv V h => HB1.out.trans (h.cr.tm.has.ge.2.2.2.mono HB1.out.size)
    have HZ := Lib.hid hzy.symm
    clear hla hrow lgh hgh hw4 b4 y4 ly4 hE e0 hb3 hzy
    go_wp2_with (first | rw [HW.out] | fail)
    rw [HZ.out]
    go_loopw [9, 10] (fun rv iv wr => ∃ (S : List Stg) (L : List Mach) (i : Nat) (la : Option Addr) (lc : Nat), i ≤ 1 + n % 6 ∧ iv = .int .i64 (i : Int) ∧ rv = .slice la i lc ∧ Hid (Cs w1 b c r G zy gh cap m100 gs0 ow0 S 4 L (.slice la i lc) wr ∧ L.length = i)) (fun _ iv _ => 6 - (intOf iv).toNat)
    case atStart => exact ⟨[], [], 0, none, 0, by omega, rfl, rfl, HH.out.1, rfl⟩
    case round =>
      obtain ⟨S, L, i, la, lc, hi, rfl, rfl, hR⟩ := hrel
      by_cases hlt : i < 1 + n % 6
      · have i1 : (i : Int) < 1 + (n : Int) % 6 := by omega
        have hnm := newmach_any (b := b) (caps26 zy) wr ⟨_, _, rfl⟩
        have y0 := hR.out.1.yv.c0
        unfold caps26 at hnm
        go_wp2_with fail
        refine hnm.mono ?_
        rintro e w5 ⟨rfl, hw5⟩
        have hz5 : w5.heap.size = wr.heap.size + 1 := by rw [hw5]; simp
        have HW5 := Lib.hid hw5
        have HO : Hid ((w5.alloc (.cells #[.pointer (some ⟨wr.heap.size, 0, none⟩)] 56)).ownsRow w1.heap.size 56 1 (.slice la i lc) (ptrs L).length (ptrs L) ∧ w1.heap.size ≤ w5.heap.size) := by
          obtain ⟨hC, hLi⟩ := hR.out
          have hb : Below wr.heap.size wr (w5.alloc (.cells #[.pointer (some ⟨wr.heap.size, 0, none⟩)] 56)) := by
            rw [hw5]
            exact ((Below.refl _ _).alloc (Nat.le_refl _) _).alloc (by simp) _
          have := (hC.cr.later hb).row
          refine ⟨?_, ?_⟩
          · rw [ptrs_len]; exact this
          · have := hC.cr.tm.has.ge.2.2.2.size; omega
        have HZ5 := Lib.hid hz5
        clear hnm hw5 hz5 y0
        go_wp2_with (at_builtin; refine append_ptr rfl (.tmp 48) (.tmp 53) rfl w1.heap.size (.slice la i lc) (ptrs L) wr.heap.size rfl HO.out.1 w5.heap.size 1 rfl (by simp [go_sem]) (by rw [ptrs_len]; have := hR.out.2; omega) (by have := HO.out.2; simp; omega) ?_; intro v' w6 g1 g2 g3; have GG := Lib.hid (⟨g1, g2, g3⟩ : _ ∧ _ ∧ _); clear g1 g2 g3)
        obtain ⟨g1, g2, g3⟩ := GG.out
        obtain ⟨la', lc', ev⟩ : ∃ a c, v' = .slice a (i + 1) c := by
          rw [ptrs_len, hR.out.2] at g1
          rcases g1.2 with ⟨_, e⟩ | ⟨g, cp, _, e, _⟩
          · omega
          · exact ⟨_, _, e⟩
        subst ev
        have hE : Hid (Cs w1 b c r G zy gh cap m100 gs0 ow0 (S ++ [.s0]) 4 (L ++ [mach0 wr.heap.size (caps26 zy)]) (.slice la' (i + 1) lc') w6 ∧ (L ++ [mach0 wr.heap.size (caps26 zy)]).length = i + 1) := by
          obtain ⟨hC, hLi⟩ := hR.out
          refine ⟨hC.add (by omega) (by decide) (w2 := w5.alloc (.cells #[.pointer (some ⟨wr.heap.size, 0, none⟩)] 56)) ?_ ?_ g2 g3, by simp; omega⟩
          · have : w5 = wr.alloc (machObj b (caps26 zy)) := HW5.out
            rw [this]
            exact (Below.refl _ _).alloc (Nat.le_refl _) _
          · rw [ptrs_len] at g1
            exact g1
        clear GG HO hR g1 g2 g3
        go_roundw
        case rel => exact ⟨_, _, i + 1, la', lc', by omega, by go_num, rfl, hE⟩
        case measure => simp [intOf]; omega
      · have i1 : ¬ (i : Int) < 1 + (n : Int) % 6 := by omega
        have hK : 1 ≤ i := by omega
        have hi7 : i ≤ 6 := by omega
        have HC0 : Hid (Cs w1 b c r G zy gh cap m100 gs0 ow0 S 4 L (.slice la i lc) wr ∧ L.length = i) := hR
        clear hR
        obtain ⟨wo, hwo⟩ : ∃ wo, wo = wr := ⟨_, rfl⟩
        subst hwo
        obtain ⟨ws, hws⟩ : ∃ V, V = wo.alloc seenObj := ⟨_, rfl⟩
        obtain ⟨zs, hzs⟩ : ∃ z, z = wo.heap.size := ⟨_, rfl⟩
        have HS0 : Hid (Cs w1 b c r G zy gh cap m100 gs0 ow0 S 4 L (.slice la i lc) ws ∧ L.length = i ∧ Mine w1 b c r G ws L (.slice la i lc) zs ∧ SeenC ws zs S (fun _ => false) ∧ zs ≠ zy ∧ zs ≠ gh) := by
          have hb : Below wo.heap.size wo ws := by rw [hws]; exact (Below.refl _ _).alloc (Nat.le_refl _) _
          have hsz : ws.heap.size = wo.heap.size + 1 := by rw [hws]; simp
          have l1 := HC0.out.1.my.1.loc.lt
          have l2 := HC0.out.1.my.2.loc.lt
          refine ⟨HC0.out.1.later hb, HC0.out.2, ?_, by rw [hzs, hws]; exact seen_start, by omega, by omega⟩
          exact MineP.mine (HC0.out.1.cr.newP (by omega)) (by omega)
        have HWS : Hid (wo.alloc (.cells #[.bool false, .bool false, .bool false, .bool false, .bool false, .bool false, .bool false, .bool false] 60) = ws) := by rw [hws]; rfl
        have HZS := Lib.hid hzs.symm
        clear hws hzs HC0
        go_wp2_with (first | rw [HWS.out] | fail)
        rw [HZS.out]
        clear i1 hlt hi
        go_loopw [12] (fun jv wr => ∃ (j : Nat) (G : List (Nat × List Sw)) (m : M) (γ : Gs) (ow : Int → Who) (S : List Stg) (L : List Mach) (f : Nat → Bool), j ≤ k1 ∧ jv = .int .i64 (j : Int) ∧ Hid (Cs w1 b c r G zy gh cap m γ ow S (4 + 5 * (j : Int)) L (.slice la i lc) wr ∧ L.length = i ∧ Mine w1 b c r G wr L (.slice la i lc) zs ∧ SeenC wr zs S f ∧ zs ≠ zy ∧ zs ≠ gh)) (fun jv _ => k1 - (intOf jv).toNat)
        case atStart => exact ⟨0, G, m100, gs0, ow0, S, L, _, by omega, rfl, by simpa using HS0.out.1, HS0.out.2⟩
        case round =>
          obtain ⟨j, G3, m3, γ3, ow3, S3, L3, f3, hj, rfl, hR⟩ := hrel
          clear HS0
          by_cases hlt2 : j < k1
          · have j1 : (j : Int) < (k1 : Int) := by omega
            obtain ⟨pb, off, xn, ea, x1, hxn⟩ := HN.out.2.1.nat (HBW.out _ _ _ _ _ _ _ _ _ hR.out.1) (k := j) (by rw [← HN.out.1]; exact hlt2)
            subst ea
            obtain ⟨p, hp⟩ : ∃ p, p = xn % i := ⟨_, rfl⟩
            have E : (xn : Int) % (i : Int) = (p : Int) := by rw [hp]; rfl
            have hip : p < i := by rw [hp]; exact Nat.mod_lt _ (by omega)
            obtain ⟨y, hyy⟩ : ∃ y, L3[p]? = some y := ⟨_, List.getElem?_eq_getElem (by rw [hR.out.2.1]; exact hip)⟩
            obtain ⟨g, eg, hc⟩ := row_at hR.out.1.cr.row (k := p) (by rw [hR.out.2.1]; exact hip) (u := .pointer (some ⟨y.xb, 0, none⟩)) (by simp [ptrs, hyy])
            cases eg
            have hen := hR.out.1.cr.tm.ended hyy
            have hat : ∀ w, (Instr.indexAt 55 (.slice (some ⟨g, 0, none⟩) i lc) (.int .i64 ((xn : Int) % (i : Int)))).run Tryd.prog w = .ok (.pointer (some ⟨g, p, none⟩)) w := fun w => by rw [E]; exact at_55 g i lc p hip w
            have hxn2 : (xn : Int) ≤ 255 := by omega
            have HP := Lib.hid (⟨hyy, hip⟩ : _ ∧ _)
            clear E hp hxn hip
            cases hfin : y.fin with
            | true =>
              rw [hfin] at hen
              have HE := Lib.hid (⟨hR.out.1.weak (c2 := 4 + 5 * ((j + 1 : Nat) : Int)) (by omega), hR.out.2⟩ : _ ∧ _)
              clear hR hyy HP hfin
              go_wp2_with fail
              refine hen.mono ?_
              rintro e w8 ⟨rfl, rfl⟩
              clear hen x1 hc hat
              go_wp2_with fail
              go_roundw
              case rel => exact ⟨j + 1, G3, m3, γ3, ow3, S3, L3, f3, by omega, by go_num, HE.out.1, HE.out.2⟩
              case measure => simp [intOf]; omega
            | false =>
              rw [hfin] at hen
              obtain ⟨st, hst, hlv, hsp⟩ := hR.out.1.step HT1.out (by omega) hyy hfin
              have HST := Lib.hid (⟨hst, hlv⟩ : _ ∧ _)
              clear hyy hfin hst hlv
              go_wp2_with fail
              refine hen.mono ?_
              rintro e w8 ⟨rfl, rfl⟩
              clear hen
              go_wp2_with fail
              refine hsp.mono ?_
              rintro e w9 ⟨G4, m4, γ4, ow4, st', L4, y', rfl, hcs, hmi⟩
              obtain ⟨q1, q2⟩ := hmi zs hR.out.2.2.1
              have H4 := Lib.hid (⟨hcs.cs, by rw [hcs.ln]; exact hR.out.2.1, q1, (hR.out.2.2.2.1.turn HST.out.1 HST.out.2).same q2, hR.out.2.2.2.2⟩ : Cs w1 b c r G4 zy gh cap m4 γ4 ow4 (S3.set p st') (4 + 5 * (j : Int) + 1) L4 (.slice (some ⟨g, 0, none⟩) i lc) w9 ∧ L4.length = i ∧ Mine w1 b c r G4 w9 L4 (.slice (some ⟨g, 0, none⟩) i lc) zs ∧ SeenC w9 zs (S3.set p st') f3 ∧ zs ≠ zy ∧ zs ≠ gh)
              cases hfy : y'.fin with
              | true =>
                obtain ⟨v, hv1, hv2⟩ := hcs.fin hfy
                have hou := hcs.cs.cr.tm.out hcs.at_
                rw [hcs.xb, hv2] at hou
                have hgw := hcs.cs.gw
                rw [hv1] at hgw
                obtain ⟨w1', w2', w3'⟩ := hR.out.2.2.2.1.new HST.out.1 HST.out.2 hgw
                have hSl : S3.length = i := by rw [hR.out.1.ln]; exact hR.out.2.1
                have v1 : (1 : Int) ≤ (v : Int) ∧ (v : Int) ≤ (i : Int) := by omega
                have v8 : (v : Int) < 8 := by omega
                have cv := H4.out.2.2.2.1.cells v (by omega)
                rw [w1'] at cv
                have fzs := H4.out.2.2.2.1.fz
                have hi6 : (i : Int) ≤ 6 := by omega
                have H5 : Hid (Cs w1 b c r G4 zy gh cap m4 γ4 ow4 (S3.set p st') (4 + 5 * (j : Int) + 1) L4 (.slice (some ⟨g, 0, none⟩) i lc) (w9.setCell ⟨zs, v, none⟩ (.bool true)) ∧ L4.length = i ∧ Mine w1 b c r G4 (w9.setCell ⟨zs, v, none⟩ (.bool true)) L4 (.slice (some ⟨g, 0, none⟩) i lc) zs ∧ SeenC (w9.setCell ⟨zs, v, none⟩ (.bool true)) zs (S3.set p st') (fun y => if y = v then true else f3 y) ∧ zs ≠ zy ∧ zs ≠ gh) := by
                  obtain ⟨r1, r2, r3, r4, r5⟩ := H4.out
                  have hbt := (But.refl zs w9).set v (.bool true)
                  exact ⟨r1.aside hbt r3 r5, r2, r3.later hbt.size, r4.put (by omega) (by rw [hv1]; exact List.getElem?_set_self (List.getElem?_eq_some_iff.1 HST.out.1).1), r5⟩
                have a3 := as3_yes
                clear hsp hR HP HST hcs hmi q1 q2 H4 hv1 hv2 hgw w1' w2' w3' hSl hfy hc hat x1
                go_wp2_with fail
                refine hou.mono ?_
                rintro e w10 ⟨rfl, rfl⟩
                clear hou
                obtain ⟨w11, hw11⟩ : ∃ V, V = w9.setCell ⟨zs, v, none⟩ (.bool true) := ⟨_, rfl⟩
                rw [← hw11] at H5
                have HW11 := Lib.hid hw11.symm
                have y0 := H5.out.1.yv.c0
                have y1 := H5.out.1.yv.c1
                have y2 := H5.out.1.yv.c2
                clear hw11
                obtain ⟨vi, qi, e5, e6, v0, v6, hvq⟩ := H5.out.1.gw.said
                have hwd := words_any H5.out.1.cr.tm.has (by have := H5.out.1.gw.cnt; omega) 3 (some ⟨gh, 0, none⟩) cap [4] [qi] ⟨_, cap, rfl, .inr ⟨gh, rfl, H5.out.1.my.2.loc, fun i x hx => by
                  match i, hx with
                  | 0, hx => cases hx; exact H5.out.1.c4
                  | i + 1, hx => simp at hx⟩⟩ rfl (by decide) (fun i k n h1 h2 => by
                  match i, h1, h2 with
                  | 0, h1, h2 => cases h1; cases h2; rw [← e6]; exact H5.out.1.gw.chn.cl
                  | i + 1, h1, _ => simp at h1)
                simp only [List.length_cons, List.length_nil, Nat.zero_add] at hwd
                go_wp2_with (first | rw [HW11.out] | fail)
                refine hwd.mono ?_
                rintro e w12 ⟨vw, rfl, hN12, hx12⟩
                obtain ⟨aw, capw, rfl, -⟩ := id hN12
                have h12 := H5.out.1.mem 1 hx12.has hx12.but hx12.gro
                have hm12 := H5.out.2.2.1.mem hx12.but hx12.gro
                have hs12 := H5.out.2.2.2.1.same hm12.2
                have hve := vers_any h12.cr.tm.has (by have := h12.gw.cnt; omega) 3 (some ⟨gh, 0, none⟩) 1 cap
                rw [go_versC h12.gw.chn, e5] at hve
                have y0 := h12.yv.c0
                have y1 := h12.yv.c1
                have y2 := h12.yv.c2
                have H12 := Lib.hid (⟨hN12, h12, hm12.1, hs12⟩ : _ ∧ _ ∧ _ ∧ _)
                clear hwd hN12 hx12 h12 hm12 hs12
                go_wp2_with fail
                refine hve.mono ?_
                rintro e w13 ⟨rfl, G7, hx13⟩
                obtain ⟨hN12, h12, hm12, hs12⟩ := H12.out
                have h13 := h12.mem 3 hx13.has hx13.but hx13.gro
                have hm13 := hm12.mem hx13.but hx13.gro
                have hs13 := hs12.same hm13.2
                have hN13 := hN12.keep hx13.but.size hx13.gro (fun k h1 h2 h3 h4 => hx13.but.block k h1 (by simp; omega))
                obtain ⟨gw, ew, cw⟩ : ∃ g, aw = some ⟨g, 0, none⟩ ∧ w13.cell? ⟨g, 0, none⟩ = some (.int .i64 qi) := by
                  obtain ⟨a', c', e, hr⟩ := hN13
                  cases e
                  rcases hr with e | ⟨g, e, _, hc⟩
                  · cases e
                  · exact ⟨g, e, hc 0 qi rfl⟩
                subst ew
                dsimp only
                have HE : Hid (Cs w1 b c r G7 zy gh cap ((m4.more 1).more 3) γ4 ow4 (S3.set p st') (4 + 5 * ((j + 1 : Nat) : Int)) L4 (.slice (some ⟨g, 0, none⟩) i lc) w13 ∧ L4.length = i ∧ Mine w1 b c r G7 w13 L4 (.slice (some ⟨g, 0, none⟩) i lc) zs ∧ SeenC w13 zs (S3.set p st') (fun y => if y = v then true else f3 y) ∧ zs ≠ zy ∧ zs ≠ gh) := by
                  have e : 4 + 5 * (j : Int) + 1 + ((1 : Nat) : Int) + ((3 : Nat) : Int) = 4 + 5 * ((j + 1 : Nat) : Int) := by push_cast; omega
                  rw [e] at h13
                  exact ⟨h13, H5.out.2.1, hm13.1, hs13, H5.out.2.2.2.2⟩
                clear hve hN12 h12 hm12 hs12 hx13 h13 hm13 hs13 hN13 H12 H5 y0 y1 y2 e5 e6
                rcases hvq with ⟨d1, d2⟩ | ⟨d1, d2, d3, d4⟩
                · clear d1
                  go_wp2_with fail
                  go_roundw
                  case rel => exact ⟨j + 1, G7, _, γ4, ow4, _, L4, _, by omega, by go_num, HE.out.1, HE.out.2⟩
                  case measure => simp [intOf]; omega
                · clear d1 d3
                  go_wp2_with fail
                  go_roundw
                  case rel => exact ⟨j + 1, G7, _, γ4, ow4, _, L4, _, by omega, by go_num, HE.out.1, HE.out.2⟩
                  case measure => simp [intOf]; omega
              | false =>
                have H5 := H4
                clear hsp hR HP HST hcs hmi q1 q2 H4 hfy hc hat x1
                have y0 := H5.out.1.yv.c0
                have y1 := H5.out.1.yv.c1
                have y2 := H5.out.1.yv.c2
                obtain ⟨vi, qi, e5, e6, v0, v6, hvq⟩ := H5.out.1.gw.said
                have hwd := words_any H5.out.1.cr.tm.has (by have := H5.out.1.gw.cnt; omega) 3 (some ⟨gh, 0, none⟩) cap [4] [qi] ⟨_, cap, rfl, .inr ⟨gh, rfl, H5.out.1.my.2.loc, fun i x hx => by
                  match i, hx with
                  | 0, hx => cases hx; exact H5.out.1.c4
                  | i + 1, hx => simp at hx⟩⟩ rfl (by decide) (fun i k n h1 h2 => by
                  match i, h1, h2 with
                  | 0, h1, h2 => cases h1; cases h2; rw [← e6]; exact H5.out.1.gw.chn.cl
                  | i + 1, h1, _ => simp at h1)
                simp only [List.length_cons, List.length_nil, Nat.zero_add] at hwd
                go_wp2_with fail
                refine hwd.mono ?_
                rintro e w12 ⟨vw, rfl, hN12, hx12⟩
                obtain ⟨aw, capw, rfl, -⟩ := id hN12
                have h12 := H5.out.1.mem 1 hx12.has hx12.but hx12.gro
                have hm12 := H5.out.2.2.1.mem hx12.but hx12.gro
                have hs12 := H5.out.2.2.2.1.same hm12.2
                have hve := vers_any h12.cr.tm.has (by have := h12.gw.cnt; omega) 3 (some ⟨gh, 0, none⟩) 1 cap
                rw [go_versC h12.gw.chn, e5] at hve
                have y0 := h12.yv.c0
                have y1 := h12.yv.c1
                have y2 := h12.yv.c2
                have H12 := Lib.hid (⟨hN12, h12, hm12.1, hs12⟩ : _ ∧ _ ∧ _ ∧ _)
                clear hwd hN12 hx12 h12 hm12 hs12
                go_wp2_with fail
                refine hve.mono ?_
                rintro e w13 ⟨rfl, G7, hx13⟩
                obtain ⟨hN12, h12, hm12, hs12⟩ := H12.out
                have h13 := h12.mem 3 hx13.has hx13.but hx13.gro
                have hm13 := hm12.mem hx13.but hx13.gro
                have hs13 := hs12.same hm13.2
                have hN13 := hN12.keep hx13.but.size hx13.gro (fun k h1 h2 h3 h4 => hx13.but.block k h1 (by simp; omega))
                obtain ⟨gw, ew, cw⟩ : ∃ g, aw = some ⟨g, 0, none⟩ ∧ w13.cell? ⟨g, 0, none⟩ = some (.int .i64 qi) := by
                  obtain ⟨a', c', e, hr⟩ := hN13
                  cases e
                  rcases hr with e | ⟨g, e, _, hc⟩
                  · cases e
                  · exact ⟨g, e, hc 0 qi rfl⟩
                subst ew
                dsimp only
                have HE : Hid (Cs w1 b c r G7 zy gh cap ((m4.more 1).more 3) γ4 ow4 (S3.set p st') (4 + 5 * ((j + 1 : Nat) : Int)) L4 (.slice (some ⟨g, 0, none⟩) i lc) w13 ∧ L4.length = i ∧ Mine w1 b c r G7 w13 L4 (.slice (some ⟨g, 0, none⟩) i lc) zs ∧ SeenC w13 zs (S3.set p st') f3 ∧ zs ≠ zy ∧ zs ≠ gh) := by
                  have e : 4 + 5 * (j : Int) + 1 + ((1 : Nat) : Int) + ((3 : Nat) : Int) = 4 + 5 * ((j + 1 : Nat) : Int) := by push_cast; omega
                  rw [e] at h13
                  exact ⟨h13, H5.out.2.1, hm13.1, hs13, H5.out.2.2.2.2⟩
                clear hve hN12 h12 hm12 hs12 hx13 h13 hm13 hs13 hN13 H12 H5 y0 y1 y2 e5 e6
                rcases hvq with ⟨d1, d2⟩ | ⟨d1, d2, d3, d4⟩
                · clear d1
                  go_wp2_with fail
                  go_roundw
                  case rel => exact ⟨j + 1, G7, _, γ4, ow4, _, L4, _, by omega, by go_num, HE.out.1, HE.out.2⟩
                  case measure => simp [intOf]; omega
                · clear d1 d3
                  go_wp2_with fail
                  go_roundw
                  case rel => exact ⟨j + 1, G7, _, γ4, ow4, _, L4, _, by omega, by go_num, HE.out.1, HE.out.2⟩
                  case measure => simp [intOf]; omega
          · obtain rfl : j = k1 := by omega
            have j1 : ¬ (j : Int) < (j : Int) := by omega
            obtain ⟨p, hp⟩ : ∃ p, p = kk % i := ⟨_, rfl⟩
            have E : (kk : Int) % (i : Int) = (p : Int) := by rw [hp]; rfl
            have hip : p < i := by rw [hp]; exact Nat.mod_lt _ (by omega)
            obtain ⟨y, hyy⟩ : ∃ y, L3[p]? = some y := ⟨_, List.getElem?_eq_getElem (by rw [hR.out.2.1]; exact hip)⟩
            obtain ⟨g, eg, hc⟩ := row_at hR.out.1.cr.row (k := p) (by rw [hR.out.2.1]; exact hip) (u := .pointer (some ⟨y.xb, 0, none⟩)) (by simp [ptrs, hyy])
            cases eg
            have hat : ∀ w, (Instr.indexAt 55 (.slice (some ⟨g, 0, none⟩) i lc) (.int .i64 ((kk : Int) % (i : Int)))).run Tryd.prog w = .ok (.pointer (some ⟨g, p, none⟩)) w := fun w => by rw [E]; exact at_55 g i lc p hip w
            obtain ⟨st, hst, -⟩ := hR.out.1.ms p y hyy
            have HM : Hid (Cs w1 b c r G3 zy gh cap m3 γ3 ow3 S3 (4 + 5 * (j : Int) + ((0 : Nat) : Int)) L3 (.slice (some ⟨g, 0, none⟩) i lc) wr ∧ L3.length = i ∧ S3[p]? = some st ∧ L3[p]? = some y ∧ mu γ3 st + 0 ≤ 24) := ⟨by simpa using hR.out.1, hR.out.2.1, hst, hyy, by have := mu_le γ3 st; omega⟩
            obtain ⟨xb, hxb⟩ : ∃ x, x = y.xb := ⟨_, rfl⟩
            have HXB : Hid (y.xb = xb) := hxb.symm
            rw [← hxb] at hc
            clear E hp hip hst hyy hxb hR
            go_wp2_with fail
            go_loopw [21] (fun jv wr => ∃ (j2 : Nat) (G : List (Nat × List Sw)) (m : M) (γ : Gs) (ow : Int → Who) (S : List Stg) (L : List Mach) (y : Mach) (st : Stg), j2 ≤ 100 ∧ jv = .int .i64 (j2 : Int) ∧ Hid (Cs w1 b c r G zy gh cap m γ ow S (4 + 5 * (j : Int) + (j2 : Int)) L (.slice (some ⟨g, 0, none⟩) i lc) wr ∧ L.length = i ∧ S[p]? = some st ∧ L[p]? = some y ∧ y.xb = xb ∧ (y.fin = false → mu γ st + j2 ≤ 24))) (fun jv _ => 100 - (intOf jv).toNat)
            case atStart => exact ⟨0, G3, m3, γ3, ow3, S3, L3, y, st, by omega, rfl, HM.out.1, HM.out.2.1, HM.out.2.2.1, HM.out.2.2.2.1, HXB.out, fun _ => HM.out.2.2.2.2⟩
            case round =>
              obtain ⟨j2, G5, m5, γ5, ow5, S5, L5, y5, st5, hj2, rfl, hR⟩ := hrel
              clear HM
              by_cases hlt3 : j2 < 100
              · have j3 : (j2 : Int) < 100 := by omega
                have hen := hR.out.1.cr.tm.ended hR.out.2.2.2.1
                rw [hR.out.2.2.2.2.1] at hen
                cases hfin : y5.fin with
                | true =>
                  rw [hfin] at hen
                  go_wp2_with fail
                  refine hen.mono ?_
                  rintro e w8 ⟨rfl, rfl⟩
                  clear hen
                  have hfin5 := hfin
                  obtain ⟨vi, qi, e5, e6, v0, v6, hvq⟩ := hR.out.1.gw.said
                  have hwd := words_any hR.out.1.cr.tm.has (by have := hR.out.1.gw.cnt; omega) 3 (some ⟨gh, 0, none⟩) cap [4] [qi] ⟨_, cap, rfl, .inr ⟨gh, rfl, hR.out.1.my.2.loc, fun i x hx => by
                    match i, hx with
                    | 0, hx => cases hx; exact hR.out.1.c4
                    | i + 1, hx => simp at hx⟩⟩ rfl (by decide) (fun i k n h1 h2 => by
                    match i, h1, h2 with
                    | 0, h1, h2 => cases h1; cases h2; rw [← e6]; exact hR.out.1.gw.chn.cl
                    | i + 1, h1, _ => simp at h1)
                  simp only [List.length_cons, List.length_nil, Nat.zero_add] at hwd
                  have y0 := hR.out.1.yv.c0
                  have y1 := hR.out.1.yv.c1
                  have y2 := hR.out.1.yv.c2
                  have HF5 := Lib.hid hfin5
                  clear hfin5
                  go_wp2_with fail
                  refine hwd.mono ?_
                  rintro e w12 ⟨vw, rfl, hN12, hx12⟩
                  obtain ⟨aw, capw, rfl, -⟩ := id hN12
                  have h12 := hR.out.1.mem 1 hx12.has hx12.but hx12.gro
                  have hve := vers_any h12.cr.tm.has (by have := h12.gw.cnt; omega) 3 (some ⟨gh, 0, none⟩) 1 cap
                  rw [go_versC h12.gw.chn, e5] at hve
                  have y0 := h12.yv.c0
                  have y1 := h12.yv.c1
                  have y2 := h12.yv.c2
                  have H12 := Lib.hid (⟨hN12, h12⟩ : _ ∧ _)
                  clear hwd hN12 hx12 h12
                  go_wp2_with fail
                  refine hve.mono ?_
                  rintro e w13 ⟨rfl, G7, hx13⟩
                  obtain ⟨hN12, h12⟩ := H12.out
                  have h13 := h12.mem 3 hx13.has hx13.but hx13.gro
                  have hN13 := hN12.keep hx13.but.size hx13.gro (fun k h1 h2 h3 h4 => hx13.but.block k h1 (by simp; omega))
                  obtain ⟨gw, ew, cw⟩ : ∃ g, aw = some ⟨g, 0, none⟩ ∧ w13.cell? ⟨g, 0, none⟩ = some (.int .i64 qi) := by
                    obtain ⟨a', c', e, hr⟩ := hN13
                    cases e
                    rcases hr with e | ⟨g, e, _, hc⟩
                    · cases e
                    · exact ⟨g, e, hc 0 qi rfl⟩
                  subst ew
                  dsimp only
                  have hen := h13.cr.tm.ended hR.out.2.2.2.1
                  rw [hR.out.2.2.2.2.1, HF5.out] at hen
                  have HE := Lib.hid (HBW.out _ _ _ _ _ _ _ _ _ h13)
                  clear hve hN12 h12 hx13 h13 hN13 H12 y0 y1 y2 e5 e6
                  rcases hvq with ⟨d1, d2⟩ | ⟨d1, d2, d3, d4⟩
                  · clear d2
                    go_wp2_with fail
                    refine hen.mono ?_
                    rintro e w14 ⟨rfl, rfl⟩
                    clear hen
                    go_wp2_with fail
                    go_ret
                    exact ⟨rfl, HE.out⟩
                  · clear d2 d4
                    go_wp2_with fail
                    refine hen.mono ?_
                    rintro e w14 ⟨rfl, rfl⟩
                    clear hen
                    go_wp2_with fail
                    go_ret
                    exact ⟨rfl, HE.out⟩
                | false =>
                  rw [hfin] at hen
                  obtain ⟨st6, hst, hlv, hsp⟩ := hR.out.1.step HT1.out (by omega) hR.out.2.2.2.1 hfin
                  rw [hR.out.2.2.2.2.1] at hsp
                  have hs6 : st6 = st5 := by
                    have := hR.out.2.2.1
                    rw [hst] at this
                    exact Option.some.inj this
                  have hmu := hR.out.2.2.2.2.2 hfin
                  have HST := Lib.hid (⟨hs6, hmu, hst⟩ : _ ∧ _ ∧ _)
                  clear hfin hst hlv hs6 hmu
                  go_wp2_with fail
                  refine hen.mono ?_
                  rintro e w8 ⟨rfl, rfl⟩
                  clear hen
                  go_wp2_with fail
                  refine hsp.mono ?_
                  rintro e w9 ⟨G4, m4, γ4, ow4, st', L4, y', rfl, hcs, -⟩
                  have HE : Hid (Cs w1 b c r G4 zy gh cap m4 γ4 ow4 (S5.set p st') (4 + 5 * (j : Int) + ((j2 + 1 : Nat) : Int)) L4 (.slice (some ⟨g, 0, none⟩) i lc) w9 ∧ L4.length = i ∧ (S5.set p st')[p]? = some st' ∧ L4[p]? = some y' ∧ y'.xb = xb ∧ (y'.fin = false → mu γ4 st' + (j2 + 1) ≤ 24)) := by
                    have h1 := hcs.cs
                    have e : 4 + 5 * (j : Int) + (j2 : Int) + 1 = 4 + 5 * (j : Int) + ((j2 + 1 : Nat) : Int) := by push_cast; omega
                    rw [e] at h1
                    refine ⟨h1, by rw [hcs.ln]; exact hR.out.2.1, List.getElem?_set_self (List.getElem?_eq_some_iff.1 HST.out.2.2).1, hcs.at_, hcs.xb.trans hR.out.2.2.2.2.1, fun _ => ?_⟩
                    have h2 := hcs.mu
                    have h3 := HST.out.2.1
                    rw [HST.out.1] at h2
                    omega
                  clear hsp hcs hR HST hc hat
                  go_wp2_with fail
                  go_roundw
                  case rel => exact ⟨j2 + 1, G4, m4, γ4, ow4, _, L4, y', st', by omega, by go_num, HE.out.1, HE.out.2⟩
                  case measure => simp [intOf]; omega
              · obtain rfl : j2 = 100 := by omega
                have hfin5 : y5.fin = true := by
                  cases hfin : y5.fin with
                  | true => rfl
                  | false => have := hR.out.2.2.2.2.2 hfin; omega
                have j3 : ¬ (((100 : Nat) : Int)) < 100 := by omega
                obtain ⟨vi, qi, e5, e6, v0, v6, hvq⟩ := hR.out.1.gw.said
                have hwd := words_any hR.out.1.cr.tm.has (by have := hR.out.1.gw.cnt; omega) 3 (some ⟨gh, 0, none⟩) cap [4] [qi] ⟨_, cap, rfl, .inr ⟨gh, rfl, hR.out.1.my.2.loc, fun i x hx => by
                  match i, hx with
                  | 0, hx => cases hx; exact hR.out.1.c4
                  | i + 1, hx => simp at hx⟩⟩ rfl (by decide) (fun i k n h1 h2 => by
                  match i, h1, h2 with
                  | 0, h1, h2 => cases h1; cases h2; rw [← e6]; exact hR.out.1.gw.chn.cl
                  | i + 1, h1, _ => simp at h1)
                simp only [List.length_cons, List.length_nil, Nat.zero_add] at hwd
                have y0 := hR.out.1.yv.c0
                have y1 := hR.out.1.yv.c1
                have y2 := hR.out.1.yv.c2
                have HF5 := Lib.hid hfin5
                clear hfin5
                go_wp2_with fail
                refine hwd.mono ?_
                rintro e w12 ⟨vw, rfl, hN12, hx12⟩
                obtain ⟨aw, capw, rfl, -⟩ := id hN12
                have h12 := hR.out.1.mem 1 hx12.has hx12.but hx12.gro
                have hve := vers_any h12.cr.tm.has (by have := h12.gw.cnt; omega) 3 (some ⟨gh, 0, none⟩) 1 cap
                rw [go_versC h12.gw.chn, e5] at hve
                have y0 := h12.yv.c0
                have y1 := h12.yv.c1
                have y2 := h12.yv.c2
                have H12 := Lib.hid (⟨hN12, h12⟩ : _ ∧ _)
                clear hwd hN12 hx12 h12
                go_wp2_with fail
                refine hve.mono ?_
                rintro e w13 ⟨rfl, G7, hx13⟩
                obtain ⟨hN12, h12⟩ := H12.out
                have h13 := h12.mem 3 hx13.has hx13.but hx13.gro
                have hN13 := hN12.keep hx13.but.size hx13.gro (fun k h1 h2 h3 h4 => hx13.but.block k h1 (by simp; omega))
                obtain ⟨gw, ew, cw⟩ : ∃ g, aw = some ⟨g, 0, none⟩ ∧ w13.cell? ⟨g, 0, none⟩ = some (.int .i64 qi) := by
                  obtain ⟨a', c', e, hr⟩ := hN13
                  cases e
                  rcases hr with e | ⟨g, e, _, hc⟩
                  · cases e
                  · exact ⟨g, e, hc 0 qi rfl⟩
                subst ew
                dsimp only
                have hen := h13.cr.tm.ended hR.out.2.2.2.1
                rw [hR.out.2.2.2.2.1, HF5.out] at hen
                have HE := Lib.hid (HBW.out _ _ _ _ _ _ _ _ _ h13)
                clear hve hN12 h12 hx13 h13 hN13 H12 y0 y1 y2 e5 e6
                rcases hvq with ⟨d1, d2⟩ | ⟨d1, d2, d3, d4⟩
                · clear d2
                  go_wp2_with fail
                  refine hen.mono ?_
                  rintro e w14 ⟨rfl, rfl⟩
                  clear hen
                  go_wp2_with fail
                  go_ret
                  exact ⟨rfl, HE.out⟩
                · clear d2 d4
                  go_wp2_with fail
                  refine hen.mono ?_
                  rintro e w14 ⟨rfl, rfl⟩
                  clear hen
                  go_wp2_with fail
                  go_ret
                  exact ⟨rfl, HE.out⟩
  · have hl1 : ¬ (k1 : Int) ≤ 400 := by omega
    have ha2 := awake_any w1 (HN.out.2.2.below HB1.out)
    go_wp2_with fail
    refine ha2.mono ?_
    rintro e w3 ⟨rfl, hb3⟩
    have HE := Lib.hid (HB1.out.trans (hb3.mono HB1.out.size))
    clear ha2 hb3
    go_wp2_with fail
    go_ret
    exact ⟨rfl, HE.out⟩
theorem countsLaw (a : Int) (ha : (Lit.int .u8 a).wf = true) (a1 : Option Addr) (l1 : List Int) (cap1 : Nat) {W : World} (hl1 : Bys W a1 l1) (k : Int) (hk : (Lit.int .u8 k).wf = true) (_W : World) (hT : TabAt W) :
    Calls Tryd.prog 5 #[.int .u8 a, .slice a1 l1.length cap1, .int .u8 k] W fun e w' => e = .returned (.bool true) ∧ Below W.heap.size W w' := by
  obtain ⟨h0, h1⟩ := wf8 ha
  obtain ⟨q0, q1⟩ := wf8 hk
  obtain ⟨n, rfl⟩ : ∃ n : Nat, a = (n : Int) := ⟨a.toNat, by omega⟩
  obtain ⟨kk, rfl⟩ : ∃ n : Nat, k = (n : Int) := ⟨k.toNat, by omega⟩
  exact counts_law W hT n kk (by omega) (by omega) a1 l1 cap1 hl1
end Go.Proofs.YteiikkkcjpfapaaDoor
