/- The law's nodes as mathematics: names, entries, heights, whom they lead to, spans. No condition. -/
import Derived.Test.YtjlifkhpohfiaaaVa
namespace Go.Proofs.Ytjlifkhpohfiaaa
open Go.RowKit Go.Op
set_option maxRecDepth 100000

/-- A node as the law has it. -/
structure Spc where
  hgt : Nat
  ver : Nat
  rate : Nat
  live : Nat
  tomb : Bool
  gone : Bool
def Spc.cells (x : Spc) : List Value := [.int .u8 (x.hgt : Int), .int .u8 (x.ver : Int), .int .u8 (x.rate : Int), .int .u8 (x.live : Int), .bool x.tomb, .bool x.gone]
def Spc.v (x : Spc) : Value := .agg #[.int .u8 (x.hgt : Int), .int .u8 (x.ver : Int), .int .u8 (x.rate : Int), .int .u8 (x.live : Int), .bool x.tomb, .bool x.gone]
def Spc.Ok (x : Spc) : Prop := x.hgt < 256 ∧ x.ver < 256 ∧ x.rate < 256 ∧ x.live < 256
/-- Such nodes in memory. -/
structure Specs (w : World) (a : Option Addr) (l : List Spc) : Prop where
  row : RowAt w a (l.flatMap Spc.cells)
  ok : ∀ x, x ∈ l → x.Ok
theorem Specs.later {w w1 : World} {a : Option Addr} {l : List Spc} (h : Specs w a l) (hb : Below w.heap.size w w1) : Specs w1 a l := ⟨h.row.later hb, h.ok⟩
theorem Specs.at_ {w : World} {a : Option Addr} {l : List Spc} (h : Specs w a l) {i : Nat} {x : Spc} (hx : l[i]? = some x) : ∃ g o, a = some ⟨g, o, none⟩ ∧ g < w.heap.size ∧ w.rangeAt g (o + i * 6) x.cells :=
  RowAt.part (f := Spc.cells) (n := 6) (fun _ => rfl) (by decide) h.row hx
theorem sh66 : Shape 66 6 := ⟨⟨_, Try.underlying66, rfl⟩, by kernel_rfl⟩
theorem at_22 (g o n cp k : Nat) (h : k < n) (w : World) : (Instr.indexAt 22 (.slice (some ⟨g, o, none⟩) n cp) (.int .i64 (k : Int))).run Try.prog w = .ok (.pointer (some ⟨g, o + k * 6, none⟩)) w := by
  have h1 : (k : Int) < (n : Int) := by omega
  go_simp
theorem at_35 (g o n cp k : Nat) (h : k < n) (w : World) : (Instr.indexAt 35 (.slice (some ⟨g, o, none⟩) n cp) (.int .i64 (k : Int))).run Try.prog w = .ok (.pointer (some ⟨g, o + k, none⟩)) w := by
  have h1 : (k : Int) < (n : Int) := by omega
  go_simp

def one (b : Nat) : ByteArray := ⟨#[UInt8.ofNat b]⟩
def two (b c : Nat) : ByteArray := ⟨#[UInt8.ofNat b, UInt8.ofNat c]⟩
def nameB (i : Nat) : ByteArray := if i = 0 then ⟨#[]⟩ else one (96 + i)
def headB (i : Nat) : ByteArray := if i = 0 then one 48 else one (96 + i)
def liveE (i k : Nat) : En := ⟨headB i ++ two (48 + k / 10) (48 + k % 10), one 118, false⟩
def tombE (i : Nat) : En := ⟨headB i ++ one 120, ⟨#[]⟩, true⟩
def liveL' (i n : Nat) : List En := (List.range n).map (liveE i)
def entL (i : Nat) (x : Spc) : List En := liveL' i (x.live % 70) ++ (if x.tomb then [tombE i] else [])
/-- How many links they have. -/
def ht (x : Spc) : Nat := 1 + x.hgt % 6
def most : List Spc → Nat
  | [] => 1
  | x :: l => max (ht x) (most l)
def hts : List Spc → List Nat
  | [] => []
  | x :: l => most (x :: l) :: l.map ht
theorem hts_length : ∀ l : List Spc, (hts l).length = l.length
  | [] => rfl
  | x :: l => by simp [hts]
theorem most_in : ∀ l : List Spc, 1 ≤ most l ∧ most l ≤ 6
  | [] => by simp [most]
  | x :: l => by
    have := most_in l
    rw [most, ht]
    omega
theorem most_ge : ∀ {l : List Spc} {x : Spc}, x ∈ l → ht x ≤ most l
  | y :: l, x, h => by
    rw [most]
    rcases List.mem_cons.1 h with rfl | h
    · omega
    · have := most_ge h; omega
theorem hts_in {l : List Spc} {h : Nat} (hh : h ∈ hts l) : 1 ≤ h ∧ h ≤ most l ∧ h ≤ 6 := by
  cases l with
  | nil => simp [hts] at hh
  | cons x l =>
    have hm := most_in (x :: l)
    rcases List.mem_cons.1 hh with rfl | hh
    · omega
    · obtain ⟨y, hy, rfl⟩ := List.mem_map.1 hh
      have h2 := most_ge (List.mem_cons_of_mem x hy)
      have h3 : 1 ≤ ht y := by rw [ht]; omega
      omega
/-- The first place behind i (or at it: from) that has more links than k. -/
def firstH (hs : List Nat) (k : Int) (i : Nat) : Option Nat := if h : i < hs.length then if k < (hs[i] : Int) then some i else firstH hs k (i + 1) else none
termination_by hs.length - i
theorem firstH_some {hs : List Nat} {k : Int} {i j : Nat} (h : firstH hs k i = some j) : i ≤ j ∧ j < hs.length := by
  unfold firstH at h
  split at h
  · split at h
    · cases h; omega
    · have := firstH_some h; omega
  · cases h
termination_by hs.length - i
def ofO : Option Nat → Int
  | some j => (j : Int)
  | none => -1
def handO : Option Nat → Int
  | some j => hand (j : Int) 7
  | none => 0
def handI (i : Nat) : Int := hand (i : Int) 7
def cellI (i k : Nat) : Int := 1000 + 10 * (i : Int) + (k : Int)
def linkI (hs : List Nat) (i k : Nat) : Int := tword (handO (firstH hs (k : Int) (i + 1))) (5 + (k : Int))
def spanI (n i : Nat) : Sp := ⟨nameB i, if i + 1 < n then nameB (i + 1) else ⟨#[]⟩, decide (i + 1 = n)⟩
def revI (n i : Nat) (x : Spc) : Rm := ⟨(x.ver : Int), 16 * (x.rate : Int), spanI n i, false, entL i x, build ((entL i x).map En.key)⟩
def viewI (hs : List Nat) (n i h : Nat) (x : Spc) : Vw := ⟨handI i, ⟨nameB i, 900 + (i : Int), (List.range h).map (cellI i)⟩, (List.range h).map (linkI hs i), 800 + (i : Int), revI n i x⟩
end Go.Proofs.Ytjlifkhpohfiaaa
