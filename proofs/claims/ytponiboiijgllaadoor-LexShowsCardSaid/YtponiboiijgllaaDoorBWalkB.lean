/- What the reference's Plain answers, what Of makes of any box of the reference, and that the document's example holds (awake). No condition. -/
import Derived.Test.YtponiboiijgllaaDoorBWalkA
namespace Go.Proofs.YtponiboiijgllaaDoor
open Go.RowKit
set_option maxRecDepth 100000

def Bx.str : Bx → ByteArray
  | .nam s => s
  | .txt s => s
  | _ => ⟨#[]⟩
def Bx.plain (b : Bx) : Value := .agg #[.int .i64 b.kd, .int .i64 b.int, .string b.str]
def ofZ (k n : Int) (s : ByteArray) : Bx := if k = 1 then .num n else if k = 2 then .nam s else if k = 3 then .txt s else .no

theorem refplain_any (k n : Int) (s : ByteArray) (w : World) : Calls Tryd.prog 16 #[.agg #[.int .i64 k, .int .i64 n, .string s]] w fun e w' => e = .returned (ofZ k n s).plain ∧ Below w.heap.size w w' := by
  by_cases h1 : k = 1
  · subst h1
    rw [show ofZ 1 n s = .num n from rfl]
    go_enter Tryd.func16, Tryd.ntmps16
    go_wp2
    exact bodyPost_ret (v := (Bx.num n).plain) (by simp [results, Tryd.results16, go_sem, Bx.plain, Bx.kd, Bx.int, Bx.str]) rfl ⟨rfl, ((Below.refl _ _).alloc (Nat.le_refl _) _).alloc (by simp) _⟩
  by_cases h2 : k = 2
  · subst h2
    rw [show ofZ 2 n s = .nam s from rfl]
    go_enter Tryd.func16, Tryd.ntmps16
    go_wp2
    exact bodyPost_ret (v := (Bx.nam s).plain) (by simp [results, Tryd.results16, go_sem, Bx.plain, Bx.kd, Bx.int, Bx.str]) rfl ⟨rfl, ((Below.refl _ _).alloc (Nat.le_refl _) _).alloc (by simp) _⟩
  by_cases h3 : k = 3
  · subst h3
    rw [show ofZ 3 n s = .txt s from rfl]
    go_enter Tryd.func16, Tryd.ntmps16
    go_wp2
    exact bodyPost_ret (v := (Bx.txt s).plain) (by simp [results, Tryd.results16, go_sem, Bx.plain, Bx.kd, Bx.int, Bx.str]) rfl ⟨rfl, ((Below.refl _ _).alloc (Nat.le_refl _) _).alloc (by simp) _⟩
  · rw [show ofZ k n s = .no by unfold ofZ; rw [if_neg h1, if_neg h2, if_neg h3]]
    have e1 : (k == 1) = false := by simpa using h1
    have e2 : (k == 2) = false := by simpa using h2
    have e3 : (k == 3) = false := by simpa using h3
    clear h1 h2 h3
    go_enter Tryd.func16, Tryd.ntmps16
    go_wp2
    exact bodyPost_ret (v := Bx.no.plain) (by simp [results, Tryd.results16, go_sem, Bx.plain, Bx.kd, Bx.int, Bx.str]) rfl ⟨rfl, ((Below.refl _ _).alloc (Nat.le_refl _) _).alloc (by simp) _⟩

theorem bcell {W w1 : World} (hb : Below W.heap.size W w1) : (∀ b o, b < W.heap.size → w1.cell? ⟨b, o, none⟩ = W.cell? ⟨b, o, none⟩) ∧ (∀ b o, b < W.heap.size → w1.frozen? ⟨b, o, none⟩ = W.frozen? ⟨b, o, none⟩) :=
  ⟨fun b o h => hb.cell (p := ⟨b, o, none⟩) h, fun b o h => hb.frozen (p := ⟨b, o, none⟩) h⟩

theorem st_v (b : Bx) (a : Addr) (m : Mode) (w : World) : (store a b.v m).run Tryd.prog w = stored Tryd.prog w a b.v m := run_store _ w a _ m (by cases b <;> rfl)

theorem of_any (k n : Int) (s : ByteArray) (w : World) : Calls Tryd.prog 27 #[.agg #[.int .i64 k, .int .i64 n, .string s]] w fun e w' => e = .returned (.agg #[(ofZ k n s).v]) ∧ Below w.heap.size w w' := by
  have st := st_v
  by_cases h1 : k = 1
  · subst h1
    rw [show ofZ 1 n s = .num n from rfl]
    go_enter Tryd.func27, Tryd.ntmps27
    go_wp2_with (go_at_call 51; refine (ofnum_any _ _).mono ?_)
    rintro e w1 ⟨rfl, hb⟩
    obtain ⟨hc, hf⟩ := bcell hb
    have hz := hb.size
    simp at hz
    have c2 : w1.cell? ⟨w.heap.size + 1, 0, none⟩ = some .nilIface := by rw [hc _ _ (by simp)]; simp [go_sem]
    have f2 : w1.frozen? ⟨w.heap.size + 1, 0, none⟩ = false := by rw [hf _ _ (by simp)]; simp [go_sem]
    clear hc hf
    go_wp2
    exact bodyPost_ret (v := .agg #[(.num n : Bx).v]) (by simp [results, Tryd.results27, go_sem, c2]) rfl ⟨rfl, ((((Below.refl _ _).alloc (Nat.le_refl _) _).alloc (by simp) _).trans (hb.mono (by simp; omega))).setCell (by simp) _⟩
  by_cases h2 : k = 2
  · subst h2
    clear h1
    rw [show ofZ 2 n s = .nam s from rfl]
    go_enter Tryd.func27, Tryd.ntmps27
    go_wp2_with (go_at_call 52; refine (ofnam_any _ _).mono ?_)
    rintro e w1 ⟨rfl, hb⟩
    obtain ⟨hc, hf⟩ := bcell hb
    have hz := hb.size
    simp at hz
    have c2 : w1.cell? ⟨w.heap.size + 1, 0, none⟩ = some .nilIface := by rw [hc _ _ (by simp)]; simp [go_sem]
    have f2 : w1.frozen? ⟨w.heap.size + 1, 0, none⟩ = false := by rw [hf _ _ (by simp)]; simp [go_sem]
    clear hc hf
    go_wp2
    exact bodyPost_ret (v := .agg #[(.nam s : Bx).v]) (by simp [results, Tryd.results27, go_sem, c2]) rfl ⟨rfl, ((((Below.refl _ _).alloc (Nat.le_refl _) _).alloc (by simp) _).trans (hb.mono (by simp; omega))).setCell (by simp) _⟩
  by_cases h3 : k = 3
  · subst h3
    clear h1 h2
    rw [show ofZ 3 n s = .txt s from rfl]
    go_enter Tryd.func27, Tryd.ntmps27
    go_wp2_with (go_at_call 53; refine (oftxt_any _ _).mono ?_)
    rintro e w1 ⟨rfl, hb⟩
    obtain ⟨hc, hf⟩ := bcell hb
    have hz := hb.size
    simp at hz
    have c2 : w1.cell? ⟨w.heap.size + 1, 0, none⟩ = some .nilIface := by rw [hc _ _ (by simp)]; simp [go_sem]
    have f2 : w1.frozen? ⟨w.heap.size + 1, 0, none⟩ = false := by rw [hf _ _ (by simp)]; simp [go_sem]
    clear hc hf
    go_wp2
    exact bodyPost_ret (v := .agg #[(.txt s : Bx).v]) (by simp [results, Tryd.results27, go_sem, c2]) rfl ⟨rfl, ((((Below.refl _ _).alloc (Nat.le_refl _) _).alloc (by simp) _).trans (hb.mono (by simp; omega))).setCell (by simp) _⟩
  · rw [show ofZ k n s = .no by unfold ofZ; rw [if_neg h1, if_neg h2, if_neg h3]]
    have e1 : (k == 1) = false := by simpa using h1
    have e2 : (k == 2) = false := by simpa using h2
    have e3 : (k == 3) = false := by simpa using h3
    clear h1 h2 h3
    go_enter Tryd.func27, Tryd.ntmps27
    go_wp2
    exact bodyPost_ret (v := .agg #[Bx.no.v]) (by simp [results, Tryd.results27, go_sem, Bx.v]) rfl ⟨rfl, ((Below.refl _ _).alloc (Nat.le_refl _) _).alloc (by simp) _⟩

end Go.Proofs.YtponiboiijgllaaDoor
