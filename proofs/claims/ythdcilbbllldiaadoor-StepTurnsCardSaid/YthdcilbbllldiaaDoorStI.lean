/- What the law's function one does by a port: the ask of an entry, whatever its kind. Conditions: memory is the call's own; at most 1000000 asks; the library's table stands. -/
import Derived.Test.YthdcilbbllldiaaDoorOpen
namespace Go.Proofs.YthdcilbbllldiaaDoor
open Go.RowKit Go.Op
set_option maxRecDepth 100000

/-- An entry: what is asked. -/
structure Aq where
  act : Int
  pos : Int
  n : Int
  m : Int
  told : Bool
  skip : Bool
def Aq.v (z : Aq) : Value := .agg #[.int .u8 z.act, .int .i64 z.pos, .int .i64 z.n, .int .i64 z.m, .bool z.told, .bool z.skip]
def Aq.h (z : Aq) (tl : Int) : Int := if z.told = true then tl else z.pos
def Aq.q (z : Aq) (tl : Int) : Qn :=
  if z.act % 7 = 0 then .alloc z.n else if z.act % 7 = 1 then .word (z.h tl) else if z.act % 7 = 2 then .store (z.h tl) z.n else if z.act % 7 = 3 then .swap (z.h tl) z.n z.m else if z.act % 7 = 4 then .free (z.h tl) else if z.act % 7 = 5 then .retire (z.h tl) z.n else .reap z.pos z.n
def flg (b : Bool) : Int := if b = true then 1 else 0
/-- The number, the error, the handle told last. -/
def Aq.res (z : Aq) (tl : Int) (a : An) : Int × Int × Int :=
  if z.act % 7 = 0 then (a.n, a.err, if a.err = 0 then a.n else tl) else if z.act % 7 = 1 then (a.n, a.err, tl) else if z.act % 7 = 2 then (0, a.err, tl) else if z.act % 7 = 3 then (flg a.ok, a.err, tl) else if z.act % 7 = 4 then (0, a.err, tl) else if z.act % 7 = 5 then (0, a.err, tl) else (flg a.ok, a.err, tl)
def Res3 (x : Int × Int × Int) : Value := .tuple #[.int .i64 x.1, .int .i64 x.2.1, .int .i64 x.2.2]
def OneEnds (pb po : Nat) (z : Aq) (tl : Int) : Option An → Ending → Prop
  | some a, e => e = .returned (Res3 (z.res tl a))
  | none, e => e = Halt pb po
def OneAsked (w0 : World) (b c r : Nat) (N : Int) (pb po : Nat) (t : Value) (w : World) (m : M) (s : Pt) (z : Aq) (tl : Int) (e : Ending) (w' : World) : Prop :=
  ∃ t', OneEnds pb po z tl (s.ask (z.q tl) m).1 e ∧ Sys w0 b c r (N + 1) pb po t' w' (s.ask (z.q tl) m).2.2 (s.ask (z.q tl) m).2.1 ∧ But5 b c r pb t w w' ∧ Row2 w t t'
theorem flag50_any (x : Bool) (w : World) : Calls Tryd.prog 50 #[.bool x] w fun e w' => e = .returned (.int .i64 (flg x)) ∧ w = w' := by
  cases x
  · go_enter Tryd.func50, Tryd.ntmps50
    go_wp2
    go_ret
    exact ⟨rfl, rfl⟩
  · go_enter Tryd.func50, Tryd.ntmps50
    go_wp2
    go_ret
    exact ⟨rfl, rfl⟩
theorem flag37_any (x : Bool) (w : World) : Calls Tryd.prog 37 #[.bool x] w fun e w' => e = .returned (.int .i64 (flg x)) ∧ w = w' := by
  cases x
  · go_enter Tryd.func37, Tryd.ntmps37
    go_wp2
    go_ret
    exact ⟨rfl, rfl⟩
  · go_enter Tryd.func37, Tryd.ntmps37
    go_wp2
    go_ret
    exact ⟨rfl, rfl⟩
section
variable {w0 : World} {b c r : Nat} {N : Int} {pb po : Nat} {t : Value} {w : World} {m : M} {s : Pt}
theorem one_0 (h : Sys w0 b c r N pb po t w m s) (hT : TabAt w0) (hN : N ≤ 999999) (hs : s.Ok) (z : Aq) (tl : Int) (ha : 0 ≤ z.act ∧ z.act ≤ 255) (hk : z.act % 7 = 0) :
    Calls Tryd.prog 32 #[.pointer (some ⟨pb, po, none⟩), z.v, .int .i64 tl] w fun e w' => OneAsked w0 b c r N pb po t w m s z tl e w' := by
  have hB := (Below.refl w.heap.size w).alloc (Nat.le_refl _) (.cells #[.int .u8 z.act, .int .i64 z.pos, .int .i64 z.n, .int .i64 z.m, .bool z.told, .bool z.skip] 41)
  have H1 := Lib.hid (h.later hB)
  have HB := Lib.hid hB
  clear hB
  obtain ⟨act, pos, n, mm, told, skip⟩ := z
  simp only at ha hk H1 HB
  unfold OneAsked
  simp only [Aq.v]
  cases told
  · have eq : (⟨act, pos, n, mm, false, skip⟩ : Aq).q tl = .alloc n := by
      unfold Aq.q; simp only [Aq.h]; rw [if_pos hk]
    have er : ∀ a, (⟨act, pos, n, mm, false, skip⟩ : Aq).res tl a = (a.n, a.err, if a.err = 0 then a.n else tl) := fun a => by
      unfold Aq.res; simp only; rw [if_pos hk]
    rw [eq]
    have hw := palloc_any H1.out hT (by omega) hs n
    unfold Asked at hw
    generalize s.ask (.alloc n) m = A at hw ⊢
    obtain ⟨o, m2, s2⟩ := A
    have HR := Lib.hid er
    have e0 : (act % 7 == 0) = true := by rw [beq_iff_eq]; omega
    clear eq er h hs hk
    go_enter Tryd.func32, Tryd.ntmps32
    go_wp2_with fail
    refine hw.mono ?_
    rintro e w2 ⟨t2, he, hS, hb, hr⟩
    cases o with
    | some a =>
      simp only [Ends, Qn.ret] at he
      subst he
      have HE := Lib.hid (⟨hS, (But5.of HB.out).trans hb, hr.from HB.out.size⟩ : _ ∧ _ ∧ _)
      clear hw hS hb hr
      by_cases h0 : a.err = 0
      · have h0b : (a.err == 0) = true := by rw [beq_iff_eq]; exact h0
        have HR2 : Hid ((⟨act, pos, n, mm, false, skip⟩ : Aq).res tl a = (a.n, a.err, a.n)) := by have := HR.out a; rw [if_pos h0] at this; exact this
        clear h0
        go_wp2
        exact bodyPost_ret (v := Res3 (a.n, a.err, a.n)) (by simp [results, Tryd.results32, go_sem, Res3]) rfl ⟨t2, congrArg (fun x => Ending.returned (Res3 x)) HR2.out.symm, HE.out⟩
      · have h0b : (a.err == 0) = false := by rw [beq_eq_false_iff_ne]; exact h0
        have HR2 : Hid ((⟨act, pos, n, mm, false, skip⟩ : Aq).res tl a = (a.n, a.err, tl)) := by have := HR.out a; rw [if_neg h0] at this; exact this
        clear h0
        go_wp2
        exact bodyPost_ret (v := Res3 (a.n, a.err, tl)) (by simp [results, Tryd.results32, go_sem, Res3]) rfl ⟨t2, congrArg (fun x => Ending.returned (Res3 x)) HR2.out.symm, HE.out⟩
    | none =>
      simp only [Ends] at he
      subst he
      have HE := Lib.hid (⟨hS, (But5.of HB.out).trans hb, hr.from HB.out.size⟩ : _ ∧ _ ∧ _)
      clear hw hS hb hr
      unfold Halt
      go_wp2
      exact ⟨rfl, t2, rfl, HE.out⟩
  · have eq : (⟨act, pos, n, mm, true, skip⟩ : Aq).q tl = .alloc n := by
      unfold Aq.q; simp only [Aq.h]; rw [if_pos hk]
    have er : ∀ a, (⟨act, pos, n, mm, true, skip⟩ : Aq).res tl a = (a.n, a.err, if a.err = 0 then a.n else tl) := fun a => by
      unfold Aq.res; simp only; rw [if_pos hk]
    rw [eq]
    have hw := palloc_any H1.out hT (by omega) hs n
    unfold Asked at hw
    generalize s.ask (.alloc n) m = A at hw ⊢
    obtain ⟨o, m2, s2⟩ := A
    have HR := Lib.hid er
    have e0 : (act % 7 == 0) = true := by rw [beq_iff_eq]; omega
    clear eq er h hs hk
    go_enter Tryd.func32, Tryd.ntmps32
    go_wp2_with fail
    refine hw.mono ?_
    rintro e w2 ⟨t2, he, hS, hb, hr⟩
    cases o with
    | some a =>
      simp only [Ends, Qn.ret] at he
      subst he
      have HE := Lib.hid (⟨hS, (But5.of HB.out).trans hb, hr.from HB.out.size⟩ : _ ∧ _ ∧ _)
      clear hw hS hb hr
      by_cases h0 : a.err = 0
      · have h0b : (a.err == 0) = true := by rw [beq_iff_eq]; exact h0
        have HR2 : Hid ((⟨act, pos, n, mm, true, skip⟩ : Aq).res tl a = (a.n, a.err, a.n)) := by have := HR.out a; rw [if_pos h0] at this; exact this
        clear h0
        go_wp2
        exact bodyPost_ret (v := Res3 (a.n, a.err, a.n)) (by simp [results, Tryd.results32, go_sem, Res3]) rfl ⟨t2, congrArg (fun x => Ending.returned (Res3 x)) HR2.out.symm, HE.out⟩
      · have h0b : (a.err == 0) = false := by rw [beq_eq_false_iff_ne]; exact h0
        have HR2 : Hid ((⟨act, pos, n, mm, true, skip⟩ : Aq).res tl a = (a.n, a.err, tl)) := by have := HR.out a; rw [if_neg h0] at this; exact this
        clear h0
        go_wp2
        exact bodyPost_ret (v := Res3 (a.n, a.err, tl)) (by simp [results, Tryd.results32, go_sem, Res3]) rfl ⟨t2, congrArg (fun x => Ending.returned (Res3 x)) HR2.out.symm, HE.out⟩
    | none =>
      simp only [Ends] at he
      subst he
      have HE := Lib.hid (⟨hS, (But5.of HB.out).trans hb, hr.from HB.out.size⟩ : _ ∧ _ ∧ _)
      clear hw hS hb hr
      unfold Halt
      go_wp2
      exact ⟨rfl, t2, rfl, HE.out⟩
theorem one_1 (h : Sys w0 b c r N pb po t w m s) (hN : N ≤ 999999) (hs : s.Ok) (z : Aq) (tl : Int) (ha : 0 ≤ z.act ∧ z.act ≤ 255) (hk : z.act % 7 = 1) :
    Calls Tryd.prog 32 #[.pointer (some ⟨pb, po, none⟩), z.v, .int .i64 tl] w fun e w' => OneAsked w0 b c r N pb po t w m s z tl e w' := by
  have hB := (Below.refl w.heap.size w).alloc (Nat.le_refl _) (.cells #[.int .u8 z.act, .int .i64 z.pos, .int .i64 z.n, .int .i64 z.m, .bool z.told, .bool z.skip] 41)
  have H1 := Lib.hid (h.later hB)
  have HB := Lib.hid hB
  clear hB
  obtain ⟨act, pos, n, mm, told, skip⟩ := z
  simp only at ha hk H1 HB
  unfold OneAsked
  simp only [Aq.v]
  cases told
  · have eq : (⟨act, pos, n, mm, false, skip⟩ : Aq).q tl = .word pos := by
      unfold Aq.q; simp only [Aq.h]; rw [if_neg (show ¬ act % 7 = 0 by omega), if_pos hk]
      simp
    have er : ∀ a, (⟨act, pos, n, mm, false, skip⟩ : Aq).res tl a = (a.n, a.err, tl) := fun a => by
      unfold Aq.res; simp only; rw [if_neg (show ¬ act % 7 = 0 by omega), if_pos hk]
    rw [eq]
    have hw := pword_any H1.out (by omega) hs pos
    unfold Asked at hw
    generalize s.ask (.word pos) m = A at hw ⊢
    obtain ⟨o, m2, s2⟩ := A
    have HR := Lib.hid er
    have e0 : (act % 7 == 0) = false := by rw [beq_eq_false_iff_ne]; omega
    have e1 : (act % 7 == 1) = true := by rw [beq_iff_eq]; omega
    clear eq er h hs hk
    go_enter Tryd.func32, Tryd.ntmps32
    go_wp2_with fail
    refine hw.mono ?_
    rintro e w2 ⟨t2, he, hS, hb, hr⟩
    cases o with
    | some a =>
      simp only [Ends, Qn.ret] at he
      subst he
      have HE := Lib.hid (⟨hS, (But5.of HB.out).trans hb, hr.from HB.out.size⟩ : _ ∧ _ ∧ _)
      clear hw hS hb hr
      go_wp2
      exact bodyPost_ret (v := Res3 (a.n, a.err, tl)) (by simp [results, Tryd.results32, go_sem, Res3]) rfl ⟨t2, congrArg (fun x => Ending.returned (Res3 x)) (HR.out a).symm, HE.out⟩
    | none =>
      simp only [Ends] at he
      subst he
      have HE := Lib.hid (⟨hS, (But5.of HB.out).trans hb, hr.from HB.out.size⟩ : _ ∧ _ ∧ _)
      clear hw hS hb hr
      unfold Halt
      go_wp2
      exact ⟨rfl, t2, rfl, HE.out⟩
  · have eq : (⟨act, pos, n, mm, true, skip⟩ : Aq).q tl = .word tl := by
      unfold Aq.q; simp only [Aq.h]; rw [if_neg (show ¬ act % 7 = 0 by omega), if_pos hk]
      simp
    have er : ∀ a, (⟨act, pos, n, mm, true, skip⟩ : Aq).res tl a = (a.n, a.err, tl) := fun a => by
      unfold Aq.res; simp only; rw [if_neg (show ¬ act % 7 = 0 by omega), if_pos hk]
    rw [eq]
    have hw := pword_any H1.out (by omega) hs tl
    unfold Asked at hw
    generalize s.ask (.word tl) m = A at hw ⊢
    obtain ⟨o, m2, s2⟩ := A
    have HR := Lib.hid er
    have e0 : (act % 7 == 0) = false := by rw [beq_eq_false_iff_ne]; omega
    have e1 : (act % 7 == 1) = true := by rw [beq_iff_eq]; omega
    clear eq er h hs hk
    go_enter Tryd.func32, Tryd.ntmps32
    go_wp2_with fail
    refine hw.mono ?_
    rintro e w2 ⟨t2, he, hS, hb, hr⟩
    cases o with
    | some a =>
      simp only [Ends, Qn.ret] at he
      subst he
      have HE := Lib.hid (⟨hS, (But5.of HB.out).trans hb, hr.from HB.out.size⟩ : _ ∧ _ ∧ _)
      clear hw hS hb hr
      go_wp2
      exact bodyPost_ret (v := Res3 (a.n, a.err, tl)) (by simp [results, Tryd.results32, go_sem, Res3]) rfl ⟨t2, congrArg (fun x => Ending.returned (Res3 x)) (HR.out a).symm, HE.out⟩
    | none =>
      simp only [Ends] at he
      subst he
      have HE := Lib.hid (⟨hS, (But5.of HB.out).trans hb, hr.from HB.out.size⟩ : _ ∧ _ ∧ _)
      clear hw hS hb hr
      unfold Halt
      go_wp2
      exact ⟨rfl, t2, rfl, HE.out⟩
theorem one_2 (h : Sys w0 b c r N pb po t w m s) (hN : N ≤ 999999) (hs : s.Ok) (z : Aq) (tl : Int) (ha : 0 ≤ z.act ∧ z.act ≤ 255) (hk : z.act % 7 = 2) :
    Calls Tryd.prog 32 #[.pointer (some ⟨pb, po, none⟩), z.v, .int .i64 tl] w fun e w' => OneAsked w0 b c r N pb po t w m s z tl e w' := by
  have hB := (Below.refl w.heap.size w).alloc (Nat.le_refl _) (.cells #[.int .u8 z.act, .int .i64 z.pos, .int .i64 z.n, .int .i64 z.m, .bool z.told, .bool z.skip] 41)
  have H1 := Lib.hid (h.later hB)
  have HB := Lib.hid hB
  clear hB
  obtain ⟨act, pos, n, mm, told, skip⟩ := z
  simp only at ha hk H1 HB
  unfold OneAsked
  simp only [Aq.v]
  cases told
  · have eq : (⟨act, pos, n, mm, false, skip⟩ : Aq).q tl = .store pos n := by
      unfold Aq.q; simp only [Aq.h]; rw [if_neg (show ¬ act % 7 = 0 by omega), if_neg (show ¬ act % 7 = 1 by omega), if_pos hk]
      simp
    have er : ∀ a, (⟨act, pos, n, mm, false, skip⟩ : Aq).res tl a = (0, a.err, tl) := fun a => by
      unfold Aq.res; simp only; rw [if_neg (show ¬ act % 7 = 0 by omega), if_neg (show ¬ act % 7 = 1 by omega), if_pos hk]
    rw [eq]
    have hw := pstore_any H1.out (by omega) hs pos n
    unfold Asked at hw
    generalize s.ask (.store pos n) m = A at hw ⊢
    obtain ⟨o, m2, s2⟩ := A
    have HR := Lib.hid er
    have e0 : (act % 7 == 0) = false := by rw [beq_eq_false_iff_ne]; omega
    have e1 : (act % 7 == 1) = false := by rw [beq_eq_false_iff_ne]; omega
    have e2 : (act % 7 == 2) = true := by rw [beq_iff_eq]; omega
    clear eq er h hs hk
    go_enter Tryd.func32, Tryd.ntmps32
    go_wp2_with fail
    refine hw.mono ?_
    rintro e w2 ⟨t2, he, hS, hb, hr⟩
    cases o with
    | some a =>
      simp only [Ends, Qn.ret] at he
      subst he
      have HE := Lib.hid (⟨hS, (But5.of HB.out).trans hb, hr.from HB.out.size⟩ : _ ∧ _ ∧ _)
      clear hw hS hb hr
      go_wp2
      exact bodyPost_ret (v := Res3 (0, a.err, tl)) (by simp [results, Tryd.results32, go_sem, Res3]) rfl ⟨t2, congrArg (fun x => Ending.returned (Res3 x)) (HR.out a).symm, HE.out⟩
    | none =>
      simp only [Ends] at he
      subst he
      have HE := Lib.hid (⟨hS, (But5.of HB.out).trans hb, hr.from HB.out.size⟩ : _ ∧ _ ∧ _)
      clear hw hS hb hr
      unfold Halt
      go_wp2
      exact ⟨rfl, t2, rfl, HE.out⟩
  · have eq : (⟨act, pos, n, mm, true, skip⟩ : Aq).q tl = .store tl n := by
      unfold Aq.q; simp only [Aq.h]; rw [if_neg (show ¬ act % 7 = 0 by omega), if_neg (show ¬ act % 7 = 1 by omega), if_pos hk]
      simp
    have er : ∀ a, (⟨act, pos, n, mm, true, skip⟩ : Aq).res tl a = (0, a.err, tl) := fun a => by
      unfold Aq.res; simp only; rw [if_neg (show ¬ act % 7 = 0 by omega), if_neg (show ¬ act % 7 = 1 by omega), if_pos hk]
    rw [eq]
    have hw := pstore_any H1.out (by omega) hs tl n
    unfold Asked at hw
    generalize s.ask (.store tl n) m = A at hw ⊢
    obtain ⟨o, m2, s2⟩ := A
    have HR := Lib.hid er
    have e0 : (act % 7 == 0) = false := by rw [beq_eq_false_iff_ne]; omega
    have e1 : (act % 7 == 1) = false := by rw [beq_eq_false_iff_ne]; omega
    have e2 : (act % 7 == 2) = true := by rw [beq_iff_eq]; omega
    clear eq er h hs hk
    go_enter Tryd.func32, Tryd.ntmps32
    go_wp2_with fail
    refine hw.mono ?_
    rintro e w2 ⟨t2, he, hS, hb, hr⟩
    cases o with
    | some a =>
      simp only [Ends, Qn.ret] at he
      subst he
      have HE := Lib.hid (⟨hS, (But5.of HB.out).trans hb, hr.from HB.out.size⟩ : _ ∧ _ ∧ _)
      clear hw hS hb hr
      go_wp2
      exact bodyPost_ret (v := Res3 (0, a.err, tl)) (by simp [results, Tryd.results32, go_sem, Res3]) rfl ⟨t2, congrArg (fun x => Ending.returned (Res3 x)) (HR.out a).symm, HE.out⟩
    | none =>
      simp only [Ends] at he
      subst he
      have HE := Lib.hid (⟨hS, (But5.of HB.out).trans hb, hr.from HB.out.size⟩ : _ ∧ _ ∧ _)
      clear hw hS hb hr
      unfold Halt
      go_wp2
      exact ⟨rfl, t2, rfl, HE.out⟩
theorem one_3 (h : Sys w0 b c r N pb po t w m s) (hN : N ≤ 999999) (hs : s.Ok) (z : Aq) (tl : Int) (ha : 0 ≤ z.act ∧ z.act ≤ 255) (hk : z.act % 7 = 3) :
    Calls Tryd.prog 32 #[.pointer (some ⟨pb, po, none⟩), z.v, .int .i64 tl] w fun e w' => OneAsked w0 b c r N pb po t w m s z tl e w' := by
  have hB := (Below.refl w.heap.size w).alloc (Nat.le_refl _) (.cells #[.int .u8 z.act, .int .i64 z.pos, .int .i64 z.n, .int .i64 z.m, .bool z.told, .bool z.skip] 41)
  have H1 := Lib.hid (h.later hB)
  have HB := Lib.hid hB
  clear hB
  obtain ⟨act, pos, n, mm, told, skip⟩ := z
  simp only at ha hk H1 HB
  unfold OneAsked
  simp only [Aq.v]
  cases told
  · have eq : (⟨act, pos, n, mm, false, skip⟩ : Aq).q tl = .swap pos n mm := by
      unfold Aq.q; simp only [Aq.h]; rw [if_neg (show ¬ act % 7 = 0 by omega), if_neg (show ¬ act % 7 = 1 by omega), if_neg (show ¬ act % 7 = 2 by omega), if_pos hk]
      simp
    have er : ∀ a, (⟨act, pos, n, mm, false, skip⟩ : Aq).res tl a = (flg a.ok, a.err, tl) := fun a => by
      unfold Aq.res; simp only; rw [if_neg (show ¬ act % 7 = 0 by omega), if_neg (show ¬ act % 7 = 1 by omega), if_neg (show ¬ act % 7 = 2 by omega), if_pos hk]
    rw [eq]
    have hw := pswap_any H1.out (by omega) hs pos n mm
    unfold Asked at hw
    generalize s.ask (.swap pos n mm) m = A at hw ⊢
    obtain ⟨o, m2, s2⟩ := A
    have HR := Lib.hid er
    have e0 : (act % 7 == 0) = false := by rw [beq_eq_false_iff_ne]; omega
    have e1 : (act % 7 == 1) = false := by rw [beq_eq_false_iff_ne]; omega
    have e2 : (act % 7 == 2) = false := by rw [beq_eq_false_iff_ne]; omega
    have e3 : (act % 7 == 3) = true := by rw [beq_iff_eq]; omega
    clear eq er h hs hk
    go_enter Tryd.func32, Tryd.ntmps32
    go_wp2_with fail
    refine hw.mono ?_
    rintro e w2 ⟨t2, he, hS, hb, hr⟩
    cases o with
    | some a =>
      simp only [Ends, Qn.ret] at he
      subst he
      have HE := Lib.hid (⟨hS, (But5.of HB.out).trans hb, hr.from HB.out.size⟩ : _ ∧ _ ∧ _)
      clear hw hS hb hr
      have hfl := fun w => flag50_any a.ok w
      go_wp2_with fail
      refine (hfl _).mono ?_
      rintro e w3 ⟨rfl, rfl⟩
      clear hfl
      go_wp2
      exact bodyPost_ret (v := Res3 (flg a.ok, a.err, tl)) (by simp [results, Tryd.results32, go_sem, Res3]) rfl ⟨t2, congrArg (fun x => Ending.returned (Res3 x)) (HR.out a).symm, HE.out⟩
    | none =>
      simp only [Ends] at he
      subst he
      have HE := Lib.hid (⟨hS, (But5.of HB.out).trans hb, hr.from HB.out.size⟩ : _ ∧ _ ∧ _)
      clear hw hS hb hr
      unfold Halt
      go_wp2
      exact ⟨rfl, t2, rfl, HE.out⟩
  · have eq : (⟨act, pos, n, mm, true, skip⟩ : Aq).q tl = .swap tl n mm := by
      unfold Aq.q; simp only [Aq.h]; rw [if_neg (show ¬ act % 7 = 0 by omega), if_neg (show ¬ act % 7 = 1 by omega), if_neg (show ¬ act % 7 = 2 by omega), if_pos hk]
      simp
    have er : ∀ a, (⟨act, pos, n, mm, true, skip⟩ : Aq).res tl a = (flg a.ok, a.err, tl) := fun a => by
      unfold Aq.res; simp only; rw [if_neg (show ¬ act % 7 = 0 by omega), if_neg (show ¬ act % 7 = 1 by omega), if_neg (show ¬ act % 7 = 2 by omega), if_pos hk]
    rw [eq]
    have hw := pswap_any H1.out (by omega) hs tl n mm
    unfold Asked at hw
    generalize s.ask (.swap tl n mm) m = A at hw ⊢
    obtain ⟨o, m2, s2⟩ := A
    have HR := Lib.hid er
    have e0 : (act % 7 == 0) = false := by rw [beq_eq_false_iff_ne]; omega
    have e1 : (act % 7 == 1) = false := by rw [beq_eq_false_iff_ne]; omega
    have e2 : (act % 7 == 2) = false := by rw [beq_eq_false_iff_ne]; omega
    have e3 : (act % 7 == 3) = true := by rw [beq_iff_eq]; omega
    clear eq er h hs hk
    go_enter Tryd.func32, Tryd.ntmps32
    go_wp2_with fail
    refine hw.mono ?_
    rintro e w2 ⟨t2, he, hS, hb, hr⟩
    cases o with
    | some a =>
      simp only [Ends, Qn.ret] at he
      subst he
      have HE := Lib.hid (⟨hS, (But5.of HB.out).trans hb, hr.from HB.out.size⟩ : _ ∧ _ ∧ _)
      clear hw hS hb hr
      have hfl := fun w => flag50_any a.ok w
      go_wp2_with fail
      refine (hfl _).mono ?_
      rintro e w3 ⟨rfl, rfl⟩
      clear hfl
      go_wp2
      exact bodyPost_ret (v := Res3 (flg a.ok, a.err, tl)) (by simp [results, Tryd.results32, go_sem, Res3]) rfl ⟨t2, congrArg (fun x => Ending.returned (Res3 x)) (HR.out a).symm, HE.out⟩
    | none =>
      simp only [Ends] at he
      subst he
      have HE := Lib.hid (⟨hS, (But5.of HB.out).trans hb, hr.from HB.out.size⟩ : _ ∧ _ ∧ _)
      clear hw hS hb hr
      unfold Halt
      go_wp2
      exact ⟨rfl, t2, rfl, HE.out⟩
theorem one_4 (h : Sys w0 b c r N pb po t w m s) (hN : N ≤ 999999) (hs : s.Ok) (z : Aq) (tl : Int) (ha : 0 ≤ z.act ∧ z.act ≤ 255) (hk : z.act % 7 = 4) :
    Calls Tryd.prog 32 #[.pointer (some ⟨pb, po, none⟩), z.v, .int .i64 tl] w fun e w' => OneAsked w0 b c r N pb po t w m s z tl e w' := by
  have hB := (Below.refl w.heap.size w).alloc (Nat.le_refl _) (.cells #[.int .u8 z.act, .int .i64 z.pos, .int .i64 z.n, .int .i64 z.m, .bool z.told, .bool z.skip] 41)
  have H1 := Lib.hid (h.later hB)
  have HB := Lib.hid hB
  clear hB
  obtain ⟨act, pos, n, mm, told, skip⟩ := z
  simp only at ha hk H1 HB
  unfold OneAsked
  simp only [Aq.v]
  cases told
  · have eq : (⟨act, pos, n, mm, false, skip⟩ : Aq).q tl = .free pos := by
      unfold Aq.q; simp only [Aq.h]; rw [if_neg (show ¬ act % 7 = 0 by omega), if_neg (show ¬ act % 7 = 1 by omega), if_neg (show ¬ act % 7 = 2 by omega), if_neg (show ¬ act % 7 = 3 by omega), if_pos hk]
      simp
    have er : ∀ a, (⟨act, pos, n, mm, false, skip⟩ : Aq).res tl a = (0, a.err, tl) := fun a => by
      unfold Aq.res; simp only; rw [if_neg (show ¬ act % 7 = 0 by omega), if_neg (show ¬ act % 7 = 1 by omega), if_neg (show ¬ act % 7 = 2 by omega), if_neg (show ¬ act % 7 = 3 by omega), if_pos hk]
    rw [eq]
    have hw := pfree_any H1.out (by omega) hs pos
    unfold Asked at hw
    generalize s.ask (.free pos) m = A at hw ⊢
    obtain ⟨o, m2, s2⟩ := A
    have HR := Lib.hid er
    have e0 : (act % 7 == 0) = false := by rw [beq_eq_false_iff_ne]; omega
    have e1 : (act % 7 == 1) = false := by rw [beq_eq_false_iff_ne]; omega
    have e2 : (act % 7 == 2) = false := by rw [beq_eq_false_iff_ne]; omega
    have e3 : (act % 7 == 3) = false := by rw [beq_eq_false_iff_ne]; omega
    have e4 : (act % 7 == 4) = true := by rw [beq_iff_eq]; omega
    clear eq er h hs hk
    go_enter Tryd.func32, Tryd.ntmps32
    go_wp2_with fail
    refine hw.mono ?_
    rintro e w2 ⟨t2, he, hS, hb, hr⟩
    cases o with
    | some a =>
      simp only [Ends, Qn.ret] at he
      subst he
      have HE := Lib.hid (⟨hS, (But5.of HB.out).trans hb, hr.from HB.out.size⟩ : _ ∧ _ ∧ _)
      clear hw hS hb hr
      go_wp2
      exact bodyPost_ret (v := Res3 (0, a.err, tl)) (by simp [results, Tryd.results32, go_sem, Res3]) rfl ⟨t2, congrArg (fun x => Ending.returned (Res3 x)) (HR.out a).symm, HE.out⟩
    | none =>
      simp only [Ends] at he
      subst he
      have HE := Lib.hid (⟨hS, (But5.of HB.out).trans hb, hr.from HB.out.size⟩ : _ ∧ _ ∧ _)
      clear hw hS hb hr
      unfold Halt
      go_wp2
      exact ⟨rfl, t2, rfl, HE.out⟩
  · have eq : (⟨act, pos, n, mm, true, skip⟩ : Aq).q tl = .free tl := by
      unfold Aq.q; simp only [Aq.h]; rw [if_neg (show ¬ act % 7 = 0 by omega), if_neg (show ¬ act % 7 = 1 by omega), if_neg (show ¬ act % 7 = 2 by omega), if_neg (show ¬ act % 7 = 3 by omega), if_pos hk]
      simp
    have er : ∀ a, (⟨act, pos, n, mm, true, skip⟩ : Aq).res tl a = (0, a.err, tl) := fun a => by
      unfold Aq.res; simp only; rw [if_neg (show ¬ act % 7 = 0 by omega), if_neg (show ¬ act % 7 = 1 by omega), if_neg (show ¬ act % 7 = 2 by omega), if_neg (show ¬ act % 7 = 3 by omega), if_pos hk]
    rw [eq]
    have hw := pfree_any H1.out (by omega) hs tl
    unfold Asked at hw
    generalize s.ask (.free tl) m = A at hw ⊢
    obtain ⟨o, m2, s2⟩ := A
    have HR := Lib.hid er
    have e0 : (act % 7 == 0) = false := by rw [beq_eq_false_iff_ne]; omega
    have e1 : (act % 7 == 1) = false := by rw [beq_eq_false_iff_ne]; omega
    have e2 : (act % 7 == 2) = false := by rw [beq_eq_false_iff_ne]; omega
    have e3 : (act % 7 == 3) = false := by rw [beq_eq_false_iff_ne]; omega
    have e4 : (act % 7 == 4) = true := by rw [beq_iff_eq]; omega
    clear eq er h hs hk
    go_enter Tryd.func32, Tryd.ntmps32
    go_wp2_with fail
    refine hw.mono ?_
    rintro e w2 ⟨t2, he, hS, hb, hr⟩
    cases o with
    | some a =>
      simp only [Ends, Qn.ret] at he
      subst he
      have HE := Lib.hid (⟨hS, (But5.of HB.out).trans hb, hr.from HB.out.size⟩ : _ ∧ _ ∧ _)
      clear hw hS hb hr
      go_wp2
      exact bodyPost_ret (v := Res3 (0, a.err, tl)) (by simp [results, Tryd.results32, go_sem, Res3]) rfl ⟨t2, congrArg (fun x => Ending.returned (Res3 x)) (HR.out a).symm, HE.out⟩
    | none =>
      simp only [Ends] at he
      subst he
      have HE := Lib.hid (⟨hS, (But5.of HB.out).trans hb, hr.from HB.out.size⟩ : _ ∧ _ ∧ _)
      clear hw hS hb hr
      unfold Halt
      go_wp2
      exact ⟨rfl, t2, rfl, HE.out⟩
theorem one_5 (h : Sys w0 b c r N pb po t w m s) (hN : N ≤ 999999) (hs : s.Ok) (z : Aq) (tl : Int) (ha : 0 ≤ z.act ∧ z.act ≤ 255) (hk : z.act % 7 = 5) :
    Calls Tryd.prog 32 #[.pointer (some ⟨pb, po, none⟩), z.v, .int .i64 tl] w fun e w' => OneAsked w0 b c r N pb po t w m s z tl e w' := by
  have hB := (Below.refl w.heap.size w).alloc (Nat.le_refl _) (.cells #[.int .u8 z.act, .int .i64 z.pos, .int .i64 z.n, .int .i64 z.m, .bool z.told, .bool z.skip] 41)
  have H1 := Lib.hid (h.later hB)
  have HB := Lib.hid hB
  clear hB
  obtain ⟨act, pos, n, mm, told, skip⟩ := z
  simp only at ha hk H1 HB
  unfold OneAsked
  simp only [Aq.v]
  cases told
  · have eq : (⟨act, pos, n, mm, false, skip⟩ : Aq).q tl = .retire pos n := by
      unfold Aq.q; simp only [Aq.h]; rw [if_neg (show ¬ act % 7 = 0 by omega), if_neg (show ¬ act % 7 = 1 by omega), if_neg (show ¬ act % 7 = 2 by omega), if_neg (show ¬ act % 7 = 3 by omega), if_neg (show ¬ act % 7 = 4 by omega), if_pos hk]
      simp
    have er : ∀ a, (⟨act, pos, n, mm, false, skip⟩ : Aq).res tl a = (0, a.err, tl) := fun a => by
      unfold Aq.res; simp only; rw [if_neg (show ¬ act % 7 = 0 by omega), if_neg (show ¬ act % 7 = 1 by omega), if_neg (show ¬ act % 7 = 2 by omega), if_neg (show ¬ act % 7 = 3 by omega), if_neg (show ¬ act % 7 = 4 by omega), if_pos hk]
    rw [eq]
    have hw := pretire_any H1.out (by omega) hs pos n
    unfold Asked at hw
    generalize s.ask (.retire pos n) m = A at hw ⊢
    obtain ⟨o, m2, s2⟩ := A
    have HR := Lib.hid er
    have e0 : (act % 7 == 0) = false := by rw [beq_eq_false_iff_ne]; omega
    have e1 : (act % 7 == 1) = false := by rw [beq_eq_false_iff_ne]; omega
    have e2 : (act % 7 == 2) = false := by rw [beq_eq_false_iff_ne]; omega
    have e3 : (act % 7 == 3) = false := by rw [beq_eq_false_iff_ne]; omega
    have e4 : (act % 7 == 4) = false := by rw [beq_eq_false_iff_ne]; omega
    have e5 : (act % 7 == 5) = true := by rw [beq_iff_eq]; omega
    clear eq er h hs hk
    go_enter Tryd.func32, Tryd.ntmps32
    go_wp2_with fail
    refine hw.mono ?_
    rintro e w2 ⟨t2, he, hS, hb, hr⟩
    cases o with
    | some a =>
      simp only [Ends, Qn.ret] at he
      subst he
      have HE := Lib.hid (⟨hS, (But5.of HB.out).trans hb, hr.from HB.out.size⟩ : _ ∧ _ ∧ _)
      clear hw hS hb hr
      go_wp2
      exact bodyPost_ret (v := Res3 (0, a.err, tl)) (by simp [results, Tryd.results32, go_sem, Res3]) rfl ⟨t2, congrArg (fun x => Ending.returned (Res3 x)) (HR.out a).symm, HE.out⟩
    | none =>
      simp only [Ends] at he
      subst he
      have HE := Lib.hid (⟨hS, (But5.of HB.out).trans hb, hr.from HB.out.size⟩ : _ ∧ _ ∧ _)
      clear hw hS hb hr
      unfold Halt
      go_wp2
      exact ⟨rfl, t2, rfl, HE.out⟩
  · have eq : (⟨act, pos, n, mm, true, skip⟩ : Aq).q tl = .retire tl n := by
      unfold Aq.q; simp only [Aq.h]; rw [if_neg (show ¬ act % 7 = 0 by omega), if_neg (show ¬ act % 7 = 1 by omega), if_neg (show ¬ act % 7 = 2 by omega), if_neg (show ¬ act % 7 = 3 by omega), if_neg (show ¬ act % 7 = 4 by omega), if_pos hk]
      simp
    have er : ∀ a, (⟨act, pos, n, mm, true, skip⟩ : Aq).res tl a = (0, a.err, tl) := fun a => by
      unfold Aq.res; simp only; rw [if_neg (show ¬ act % 7 = 0 by omega), if_neg (show ¬ act % 7 = 1 by omega), if_neg (show ¬ act % 7 = 2 by omega), if_neg (show ¬ act % 7 = 3 by omega), if_neg (show ¬ act % 7 = 4 by omega), if_pos hk]
    rw [eq]
    have hw := pretire_any H1.out (by omega) hs tl n
    unfold Asked at hw
    generalize s.ask (.retire tl n) m = A at hw ⊢
    obtain ⟨o, m2, s2⟩ := A
    have HR := Lib.hid er
    have e0 : (act % 7 == 0) = false := by rw [beq_eq_false_iff_ne]; omega
    have e1 : (act % 7 == 1) = false := by rw [beq_eq_false_iff_ne]; omega
    have e2 : (act % 7 == 2) = false := by rw [beq_eq_false_iff_ne]; omega
    have e3 : (act % 7 == 3) = false := by rw [beq_eq_false_iff_ne]; omega
    have e4 : (act % 7 == 4) = false := by rw [beq_eq_false_iff_ne]; omega
    have e5 : (act % 7 == 5) = true := by rw [beq_iff_eq]; omega
    clear eq er h hs hk
    go_enter Tryd.func32, Tryd.ntmps32
    go_wp2_with fail
    refine hw.mono ?_
    rintro e w2 ⟨t2, he, hS, hb, hr⟩
    cases o with
    | some a =>
      simp only [Ends, Qn.ret] at he
      subst he
      have HE := Lib.hid (⟨hS, (But5.of HB.out).trans hb, hr.from HB.out.size⟩ : _ ∧ _ ∧ _)
      clear hw hS hb hr
      go_wp2
      exact bodyPost_ret (v := Res3 (0, a.err, tl)) (by simp [results, Tryd.results32, go_sem, Res3]) rfl ⟨t2, congrArg (fun x => Ending.returned (Res3 x)) (HR.out a).symm, HE.out⟩
    | none =>
      simp only [Ends] at he
      subst he
      have HE := Lib.hid (⟨hS, (But5.of HB.out).trans hb, hr.from HB.out.size⟩ : _ ∧ _ ∧ _)
      clear hw hS hb hr
      unfold Halt
      go_wp2
      exact ⟨rfl, t2, rfl, HE.out⟩
theorem one_6 (h : Sys w0 b c r N pb po t w m s) (hN : N ≤ 999999) (hs : s.Ok) (z : Aq) (tl : Int) (ha : 0 ≤ z.act ∧ z.act ≤ 255) (hk : z.act % 7 = 6) :
    Calls Tryd.prog 32 #[.pointer (some ⟨pb, po, none⟩), z.v, .int .i64 tl] w fun e w' => OneAsked w0 b c r N pb po t w m s z tl e w' := by
  have hB := (Below.refl w.heap.size w).alloc (Nat.le_refl _) (.cells #[.int .u8 z.act, .int .i64 z.pos, .int .i64 z.n, .int .i64 z.m, .bool z.told, .bool z.skip] 41)
  have H1 := Lib.hid (h.later hB)
  have HB := Lib.hid hB
  clear hB
  obtain ⟨act, pos, n, mm, told, skip⟩ := z
  simp only at ha hk H1 HB
  unfold OneAsked
  simp only [Aq.v]
  cases told
  · have eq : (⟨act, pos, n, mm, false, skip⟩ : Aq).q tl = .reap pos n := by
      unfold Aq.q; simp only [Aq.h]; rw [if_neg (show ¬ act % 7 = 0 by omega), if_neg (show ¬ act % 7 = 1 by omega), if_neg (show ¬ act % 7 = 2 by omega), if_neg (show ¬ act % 7 = 3 by omega), if_neg (show ¬ act % 7 = 4 by omega), if_neg (show ¬ act % 7 = 5 by omega)]
    have er : ∀ a, (⟨act, pos, n, mm, false, skip⟩ : Aq).res tl a = (flg a.ok, a.err, tl) := fun a => by
      unfold Aq.res; simp only; rw [if_neg (show ¬ act % 7 = 0 by omega), if_neg (show ¬ act % 7 = 1 by omega), if_neg (show ¬ act % 7 = 2 by omega), if_neg (show ¬ act % 7 = 3 by omega), if_neg (show ¬ act % 7 = 4 by omega), if_neg (show ¬ act % 7 = 5 by omega)]
    rw [eq]
    have hw := preap_any H1.out (by omega) hs pos n
    unfold Asked at hw
    generalize s.ask (.reap pos n) m = A at hw ⊢
    obtain ⟨o, m2, s2⟩ := A
    have HR := Lib.hid er
    have e0 : (act % 7 == 0) = false := by rw [beq_eq_false_iff_ne]; omega
    have e1 : (act % 7 == 1) = false := by rw [beq_eq_false_iff_ne]; omega
    have e2 : (act % 7 == 2) = false := by rw [beq_eq_false_iff_ne]; omega
    have e3 : (act % 7 == 3) = false := by rw [beq_eq_false_iff_ne]; omega
    have e4 : (act % 7 == 4) = false := by rw [beq_eq_false_iff_ne]; omega
    have e5 : (act % 7 == 5) = false := by rw [beq_eq_false_iff_ne]; omega
    clear eq er h hs hk
    go_enter Tryd.func32, Tryd.ntmps32
    go_wp2_with fail
    refine hw.mono ?_
    rintro e w2 ⟨t2, he, hS, hb, hr⟩
    cases o with
    | some a =>
      simp only [Ends, Qn.ret] at he
      subst he
      have HE := Lib.hid (⟨hS, (But5.of HB.out).trans hb, hr.from HB.out.size⟩ : _ ∧ _ ∧ _)
      clear hw hS hb hr
      have hfl := fun w => flag50_any a.ok w
      go_wp2_with fail
      refine (hfl _).mono ?_
      rintro e w3 ⟨rfl, rfl⟩
      clear hfl
      go_wp2
      exact bodyPost_ret (v := Res3 (flg a.ok, a.err, tl)) (by simp [results, Tryd.results32, go_sem, Res3]) rfl ⟨t2, congrArg (fun x => Ending.returned (Res3 x)) (HR.out a).symm, HE.out⟩
    | none =>
      simp only [Ends] at he
      subst he
      have HE := Lib.hid (⟨hS, (But5.of HB.out).trans hb, hr.from HB.out.size⟩ : _ ∧ _ ∧ _)
      clear hw hS hb hr
      unfold Halt
      go_wp2
      exact ⟨rfl, t2, rfl, HE.out⟩
  · have eq : (⟨act, pos, n, mm, true, skip⟩ : Aq).q tl = .reap pos n := by
      unfold Aq.q; simp only [Aq.h]; rw [if_neg (show ¬ act % 7 = 0 by omega), if_neg (show ¬ act % 7 = 1 by omega), if_neg (show ¬ act % 7 = 2 by omega), if_neg (show ¬ act % 7 = 3 by omega), if_neg (show ¬ act % 7 = 4 by omega), if_neg (show ¬ act % 7 = 5 by omega)]
    have er : ∀ a, (⟨act, pos, n, mm, true, skip⟩ : Aq).res tl a = (flg a.ok, a.err, tl) := fun a => by
      unfold Aq.res; simp only; rw [if_neg (show ¬ act % 7 = 0 by omega), if_neg (show ¬ act % 7 = 1 by omega), if_neg (show ¬ act % 7 = 2 by omega), if_neg (show ¬ act % 7 = 3 by omega), if_neg (show ¬ act % 7 = 4 by omega), if_neg (show ¬ act % 7 = 5 by omega)]
    rw [eq]
    have hw := preap_any H1.out (by omega) hs pos n
    unfold Asked at hw
    generalize s.ask (.reap pos n) m = A at hw ⊢
    obtain ⟨o, m2, s2⟩ := A
    have HR := Lib.hid er
    have e0 : (act % 7 == 0) = false := by rw [beq_eq_false_iff_ne]; omega
    have e1 : (act % 7 == 1) = false := by rw [beq_eq_false_iff_ne]; omega
    have e2 : (act % 7 == 2) = false := by rw [beq_eq_false_iff_ne]; omega
    have e3 : (act % 7 == 3) = false := by rw [beq_eq_false_iff_ne]; omega
    have e4 : (act % 7 == 4) = false := by rw [beq_eq_false_iff_ne]; omega
    have e5 : (act % 7 == 5) = false := by rw [beq_eq_false_iff_ne]; omega
    clear eq er h hs hk
    go_enter Tryd.func32, Tryd.ntmps32
    go_wp2_with fail
    refine hw.mono ?_
    rintro e w2 ⟨t2, he, hS, hb, hr⟩
    cases o with
    | some a =>
      simp only [Ends, Qn.ret] at he
      subst he
      have HE := Lib.hid (⟨hS, (But5.of HB.out).trans hb, hr.from HB.out.size⟩ : _ ∧ _ ∧ _)
      clear hw hS hb hr
      have hfl := fun w => flag50_any a.ok w
      go_wp2_with fail
      refine (hfl _).mono ?_
      rintro e w3 ⟨rfl, rfl⟩
      clear hfl
      go_wp2
      exact bodyPost_ret (v := Res3 (flg a.ok, a.err, tl)) (by simp [results, Tryd.results32, go_sem, Res3]) rfl ⟨t2, congrArg (fun x => Ending.returned (Res3 x)) (HR.out a).symm, HE.out⟩
    | none =>
      simp only [Ends] at he
      subst he
      have HE := Lib.hid (⟨hS, (But5.of HB.out).trans hb, hr.from HB.out.size⟩ : _ ∧ _ ∧ _)
      clear hw hS hb hr
      unfold Halt
      go_wp2
      exact ⟨rfl, t2, rfl, HE.out⟩
theorem one_any (h : Sys w0 b c r N pb po t w m s) (hT : TabAt w0) (hN : N ≤ 999999) (hs : s.Ok) (z : Aq) (tl : Int) (ha : 0 ≤ z.act ∧ z.act ≤ 255) :
    Calls Tryd.prog 32 #[.pointer (some ⟨pb, po, none⟩), z.v, .int .i64 tl] w fun e w' => OneAsked w0 b c r N pb po t w m s z tl e w' := by
  rcases (show z.act % 7 = 0 ∨ z.act % 7 = 1 ∨ z.act % 7 = 2 ∨ z.act % 7 = 3 ∨ z.act % 7 = 4 ∨ z.act % 7 = 5 ∨ z.act % 7 = 6 by omega) with k | k | k | k | k | k | k
  · exact one_0 h hT hN hs z tl ha k
  · exact one_1 h hN hs z tl ha k
  · exact one_2 h hN hs z tl ha k
  · exact one_3 h hN hs z tl ha k
  · exact one_4 h hN hs z tl ha k
  · exact one_5 h hN hs z tl ha k
  · exact one_6 h hN hs z tl ha k
end
end Go.Proofs.YthdcilbbllldiaaDoor
