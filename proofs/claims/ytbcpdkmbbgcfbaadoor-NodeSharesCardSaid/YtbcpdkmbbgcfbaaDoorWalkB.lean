/- What Handle, Right, Place, Gen of tag and of the reference answer of any numbers of 64 bits. Conditions: the numbers are of 64 bits. -/
import Derived.Test.YtbcpdkmbbgcfbaaDoorMath
import Derived.Test.YtbcpdkmbbgcfbaaDoorChecked
import Derived.WalkKit
import Derived.Handy
import Derived.Below
import Derived.Lib.Hide
import Derived.Lib.MinMaxS
import Derived.WalkSpells
import Derived.WalkLawsBesides
import Derived.Laws.BitsAllLaws
import Derived.KernelRfl
namespace Go.Proofs.YtbcpdkmbbgcfbaaDoor
open Go.RowKit Go.Op
set_option maxRecDepth 100000

theorem ret_i64 {a b : Int} (h : a = b) : Ending.returned (.int .i64 a) = .returned (.int .i64 b) := by rw [h]
theorem ret_bool {a b : Bool} (h : a = b) : Ending.returned (.bool a) = .returned (.bool b) := by rw [h]

/-- The lowest k bits of a number of 64 bits. -/
theorem and_low (k : Nat) (hk : k ≤ 62) (n m : Int) (hm : (BitVec.ofInt 64 m).toNat = 2 ^ k - 1) : bits .and .i64 n m = n % ((2 ^ k : Nat) : Int) := by
  have key : (BitVec.ofInt 64 n &&& BitVec.ofInt 64 m).toNat = (n % ((2 ^ 64 : Nat) : Int)).toNat % 2 ^ k := by
    rw [BitVec.toNat_and, BitVec.toNat_ofInt, hm, Nat.and_two_pow_sub_one_eq_mod]
  show IntKind.i64.wrap ((BitVec.ofInt 64 n &&& BitVec.ofInt 64 m).toNat : Nat) = _
  have hd : ((2 ^ k : Nat) : Int) ∣ ((2 ^ 64 : Nat) : Int) := Int.ofNat_dvd.mpr (Nat.pow_dvd_pow 2 (by omega))
  have hl : (2 ^ k : Nat) ≤ 2 ^ 62 := Nat.pow_le_pow_right (by decide) hk
  have hp : 0 < (2 ^ k : Nat) := Nat.two_pow_pos k
  have e : (((n % ((2 ^ 64 : Nat) : Int)).toNat % 2 ^ k : Nat) : Int) = n % ((2 ^ k : Nat) : Int) := by
    rw [Int.natCast_emod, Int.toNat_of_nonneg (Int.emod_nonneg _ (by decide)), Int.emod_emod_of_dvd n hd]
  rw [key, e, IntKind.wrap_i64]
  generalize (2 ^ k : Nat) = c at *
  have h1 := Int.emod_nonneg n (b := (c : Int)) (by omega)
  have h2 := Int.emod_lt_of_pos n (b := (c : Int)) (by omega)
  omega
theorem and16 (n : Int) : bits .and .i64 n 65535 = n % 65536 := and_low 16 (by decide) n 65535 (by decide)
theorem and31 (n : Int) : bits .and .i64 n 2147483647 = n % 2147483648 := and_low 31 (by decide) n 2147483647 (by decide)
/-- Numbers side by side. -/
theorem or_side (k : Nat) (a b : Nat) (ha : a % 2 ^ k = 0) (hb : b < 2 ^ k) (hs : a + b < 9223372036854775808) : bits .or .i64 (a : Int) (b : Int) = (a : Int) + (b : Int) := by
  show IntKind.i64.wrap ((BitVec.ofInt 64 (a : Int) ||| BitVec.ofInt 64 (b : Int)).toNat : Int) = _
  rw [BitVec.toNat_or, ofInt_u64 a (by omega), ofInt_u64 b (by omega), nat_join k a b ha hb, IntKind.wrap_i64]
  omega
theorem or16 (g p : Int) (h1 : 0 ≤ g) (h2 : g ≤ 16383) (h3 : 0 ≤ p) (h4 : p ≤ 65534) : bits .or .i64 (g * 65536) (p + 1) = g * 65536 + p + 1 := by
  have := or_side 16 (g.toNat * 65536) (p.toNat + 1) (by omega) (by omega) (by omega)
  rw [show g * 65536 = ((g.toNat * 65536 : Nat) : Int) by omega, show p + 1 = ((p.toNat + 1 : Nat) : Int) by omega, this]
  omega
theorem or31 (v h : Int) (h1 : 0 ≤ v) (h2 : v ≤ 1073741824) (h3 : 0 ≤ h) (h4 : h < 1073741824) : bits .or .i64 (v * 2147483648) h = v * 2147483648 + h := by
  have := or_side 31 (v.toNat * 2147483648) h.toNat (by omega) (by omega) (by omega)
  rw [show v * 2147483648 = ((v.toNat * 2147483648 : Nat) : Int) by omega]
  conv => lhs; rw [show h = (h.toNat : Int) by omega]
  rw [this]
  omega

/-- Is a number a handle? -/
def isH (h : Int) : Bool := decide (0 < h ∧ h < 1073741824 ∧ 0 < h % 65536)
/-- The handle of a place and a generation. -/
def hand (p g : Int) : Int := if 0 ≤ p ∧ p ≤ 65534 ∧ 0 ≤ g ∧ g ≤ 16383 then g * 65536 + p + 1 else 0
def placeOf (h : Int) : Int := if isH h = true then h % 65536 - 1 else -1
def genOf (h : Int) : Int := if isH h = true then h / 65536 else -1

theorem right_any (h : Int) (w : World) : Calls Tryd.prog 88 #[.int .i64 h] w fun e w' => e = .returned (.bool (isH h)) ∧ w = w' := by
  by_cases h1 : 0 < h
  · by_cases h2 : h / 65536 ≤ 16383
    · by_cases h3 : h % 65536 = 0
      · have e : isH h = false := decide_eq_false (by omega)
        have HA := Lib.hid (and16 h)
        rw [h3] at HA
        rw [e]
        go_enter Tryd.func88, Tryd.ntmps88
        go_wp2_with (rw [HA.out])
        go_ret
        exact ⟨rfl, rfl⟩
      · have e : isH h = true := decide_eq_true (by omega)
        have HA := Lib.hid (and16 h)
        rw [e]
        go_enter Tryd.func88, Tryd.ntmps88
        go_wp2_with (rw [HA.out])
        go_ret
        exact ⟨ret_bool (by simp; omega), rfl⟩
    · have e : isH h = false := decide_eq_false (by omega)
      rw [e]
      go_enter Tryd.func88, Tryd.ntmps88
      go_wp2
      go_ret
      exact ⟨rfl, rfl⟩
  · have e : isH h = false := decide_eq_false (by omega)
    rw [e]
    go_enter Tryd.func88, Tryd.ntmps88
    go_wp2
    go_ret
    exact ⟨rfl, rfl⟩
theorem handle_any (p g : Int) (w : World) : Calls Tryd.prog 87 #[.int .i64 p, .int .i64 g] w fun e w' => e = .returned (.int .i64 (hand p g)) ∧ w = w' := by
  by_cases h1 : p < 0
  · have e : hand p g = 0 := if_neg (by omega)
    rw [e]
    go_enter Tryd.func87, Tryd.ntmps87
    go_wp2
    go_ret
    exact ⟨rfl, rfl⟩
  · by_cases h2 : p ≥ 65535
    · have e : hand p g = 0 := if_neg (by omega)
      rw [e]
      go_enter Tryd.func87, Tryd.ntmps87
      go_wp2
      go_ret
      exact ⟨rfl, rfl⟩
    · by_cases h3 : g < 0
      · have e : hand p g = 0 := if_neg (by omega)
        rw [e]
        go_enter Tryd.func87, Tryd.ntmps87
        go_wp2
        go_ret
        exact ⟨rfl, rfl⟩
      · by_cases h4 : 16383 < g
        · have e : hand p g = 0 := if_neg (by omega)
          rw [e]
          go_enter Tryd.func87, Tryd.ntmps87
          go_wp2
          go_ret
          exact ⟨rfl, rfl⟩
        · have e : hand p g = g * 65536 + p + 1 := if_pos (by omega)
          have HO := Lib.hid (or16 g p (by omega) (by omega) (by omega) (by omega))
          rw [e]
          go_enter Tryd.func87, Tryd.ntmps87
          go_wp2
          go_ret
          exact ⟨ret_i64 HO.out, rfl⟩
theorem place_any (h : Int) (w : World) : Calls Tryd.prog 83 #[.int .i64 h] w fun e w' => e = .returned (.int .i64 (placeOf h)) ∧ w = w' := by
  have hr := fun w => right_any h w
  cases hi : isH h
  · have e : placeOf h = -1 := if_neg (by rw [hi]; decide)
    rw [hi] at hr
    rw [e]
    go_enter Tryd.func83, Tryd.ntmps83
    go_wp2_with fail
    refine (hr _).mono ?_
    rintro e w1 ⟨rfl, rfl⟩
    go_wp2
    go_ret
    exact ⟨rfl, rfl⟩
  · have e : placeOf h = h % 65536 - 1 := if_pos hi
    have HA := Lib.hid (and16 h)
    rw [hi] at hr
    rw [e]
    clear e
    go_enter Tryd.func83, Tryd.ntmps83
    go_wp2_with fail
    refine (hr _).mono ?_
    rintro e w1 ⟨rfl, rfl⟩
    go_wp2_with (rw [HA.out])
    go_ret
    exact ⟨rfl, rfl⟩
theorem gen_any (h : Int) (w : World) : Calls Tryd.prog 84 #[.int .i64 h] w fun e w' => e = .returned (.int .i64 (genOf h)) ∧ w = w' := by
  have hr := fun w => right_any h w
  cases hi : isH h
  · have e : genOf h = -1 := if_neg (by rw [hi]; decide)
    rw [hi] at hr
    rw [e]
    go_enter Tryd.func84, Tryd.ntmps84
    go_wp2_with fail
    refine (hr _).mono ?_
    rintro e w1 ⟨rfl, rfl⟩
    go_wp2
    go_ret
    exact ⟨rfl, rfl⟩
  · have e : genOf h = h / 65536 := if_pos hi
    rw [hi] at hr
    rw [e]
    clear e
    go_enter Tryd.func84, Tryd.ntmps84
    go_wp2_with fail
    refine (hr _).mono ?_
    rintro e w1 ⟨rfl, rfl⟩
    go_wp2
    go_ret
    exact ⟨rfl, rfl⟩

/-- The library's table stands in its variable. -/
def TabAt (w : World) : Prop := ∀ j, j < 64 → w.cell? ⟨0, j, none⟩ = some (.int .u8 (Lib.deBruijn64tab.getD j 0))
theorem tz_key {x a : Nat} (hx : x < 18446744073709551616) (h0 : 0 < x) (low : x &&& (18446744073709551616 - x) = a) :
    IntKind.u64.wrap (bits .and .u64 (x : Int) (IntKind.u64.wrap (-(x : Int))) * 285870213051353865) / 288230376151711744 = ((a * 285870213051353865 % 18446744073709551616 / 288230376151711744 : Nat) : Int) := by
  have hw : ∀ n : Int, IntKind.u64.wrap n = n % 18446744073709551616 := fun n => by simp [IntKind.wrap, IntKind.signed, IntKind.bits]
  rw [hw, hw]
  have neg : -(x : Int) % 18446744073709551616 = ((18446744073709551616 - x : Nat) : Int) := by omega
  rw [neg, u64_and_nat _ _ hx (by omega), low]
  omega
theorem tz_core (x k idx : Nat) (w : World) (hx0 : ((x : Int) == 0) = false)
    (key : IntKind.u64.wrap (bits BinOp.and IntKind.u64 (x : Int) (IntKind.u64.wrap (-(x : Int))) * 285870213051353865) / 288230376151711744 = (idx : Int))
    (hi : idx < 64) (hk : k < 64) (hcell : w.cell? ⟨0, idx, none⟩ = some (.int .u8 k)) :
    Calls Tryd.prog 86 #[.int .u64 x] w fun e w' => e = .returned (.int .i64 k) ∧ w = w' := by
  go_enter Tryd.func86, Tryd.ntmps86
  go_wp2_with (simp only [key])
  go_ret
  exact ⟨rfl, rfl⟩
theorem tz_any (x : Nat) (hx : x < 18446744073709551616) (hx0 : x ≠ 0) (w : World) (hT : TabAt w) : Calls Tryd.prog 86 #[.int .u64 x] w fun e w' => e = .returned (.int .i64 (Lib.ctz 64 x)) ∧ w = w' := by
  obtain ⟨hlow, hk⟩ := Lib.lowest_bit 64 x hx0 hx
  obtain ⟨hi, htab⟩ := Lib.deBruijn64_at _ hk
  have hcell := hT _ hi
  rw [htab] at hcell
  exact tz_core x _ _ w (by simp; omega) (tz_key hx (by omega) hlow) hi hk hcell
end Go.Proofs.YtbcpdkmbbgcfbaaDoor
/- Memory's cells and counts in the program's memory: what stands where, and what a store makes of it; the four calls that only tell. No condition. -/
namespace Go.Proofs.YtbcpdkmbbgcfbaaDoor
open Go.RowKit Go.Op
set_option maxRecDepth 100000

/-- A slice: its place, how long it is, how much room it has. -/
structure Sl where
  a : Option Addr
  n : Nat
  cap : Nat
def Sl.v (s : Sl) : Value := .slice s.a s.n s.cap
def Sl.nil : Sl := ⟨none, 0, 0⟩
/-- The places of a block's rows. -/
structure Pl where
  s0 : Sl
  s1 : Sl
  s2 : Sl
  s3 : Sl
def Pl.nil : Pl := ⟨.nil, .nil, .nil, .nil⟩
/-- A revision, its rows' places set aside. -/
structure Rv where
  ver : Int
  rate : Int
  lo : ByteArray
  hi : ByteArray
  all : Bool
  dead : Bool
  keys : List ByteArray
  vals : List ByteArray
  gone : List Bool
  tab : List Int
def Rv.row (r : Rv) (p : Pl) : List Value := [.int .i64 r.ver, .int .i64 r.rate, .string r.lo, .string r.hi, .bool r.all, .bool r.dead, .slice p.s0.a p.s0.n p.s0.cap, .slice p.s1.a p.s1.n p.s1.cap, .slice p.s2.a p.s2.n p.s2.cap, .slice p.s3.a p.s3.n p.s3.cap]
/-- What a block says: an age, a node. -/
inductive Dat where
  | age (r : Rv) (pv : Int)
  | node (low : ByteArray) (head : Int) (nx : List Int)
def Dat.ty : Dat → TypeId
  | .age .. => 42
  | .node .. => 27
def Dat.v : Dat → Pl → Value
  | .age r pv, p => .agg #[.int .i64 r.ver, .int .i64 r.rate, .string r.lo, .string r.hi, .bool r.all, .bool r.dead, .slice p.s0.a p.s0.n p.s0.cap, .slice p.s1.a p.s1.n p.s1.cap, .slice p.s2.a p.s2.n p.s2.cap, .slice p.s3.a p.s3.n p.s3.cap, .int .i64 pv]
  | .node low head _, p => .agg #[.string low, .int .i64 head, .slice p.s0.a p.s0.n p.s0.cap]
/-- What a cell holds. -/
inductive Held where
  | no
  | word (n : Int)
  | blk (d : Dat) (p : Pl)
def Held.v : Held → Value
  | .no => .nilIface
  | .word n => .iface 125 (.int .i64 n)
  | .blk d p => .iface d.ty (d.v p)
def Held.busy : Held → Bool
  | .no => false
  | _ => true
structure Cl where
  held : Held
  gen : Int
  ret : Bool
  stamp : Int
def Cl.can (x : Cl) : Bool := !x.held.busy && decide (x.gen ≤ 16383)
/-- Memory: its cells, how often it was asked, how many are not free, how often a handle was stale. -/
structure M where
  cells : List Cl
  count : Int
  live : Int
  stale : Int
def M.flags (m : M) : List Bool := m.cells.map Cl.can

/-- A cell at an offset of a block. -/
def CAt (w : World) (c o : Nat) (x : Cl) : Prop := w.cell? ⟨c, o, none⟩ = some x.held.v ∧ w.cell? ⟨c, o + 1, none⟩ = some (.int .i64 x.gen) ∧ w.cell? ⟨c, o + 2, none⟩ = some (.bool x.ret) ∧ w.cell? ⟨c, o + 3, none⟩ = some (.int .i64 x.stamp)
def Cells (w : World) (c : Nat) (L : List Cl) : Prop := ∀ i x, L[i]? = some x → CAt w c (i * 4) x
def Rows (w : World) (r n : Nat) (F : List Bool) : Prop := ∀ j, j < (n + 63) / 64 → w.cell? ⟨r, j, none⟩ = some (.int .u64 (rowAt F j : Nat))
structure Head (w : World) (b c r n : Nat) (cnt lv st : Int) : Prop where
  h0 : w.cell? ⟨b, 0, none⟩ = some (.slice (some ⟨c, 0, none⟩) n n)
  h1 : w.cell? ⟨b, 1, none⟩ = some (.slice (some ⟨r, 0, none⟩) ((n + 63) / 64) ((n + 63) / 64))
  h2 : w.cell? ⟨b, 2, none⟩ = some (.int .i64 cnt)
  h3 : w.cell? ⟨b, 3, none⟩ = some (.int .i64 lv)
  h4 : w.cell? ⟨b, 4, none⟩ = some (.int .i64 st)
/-- The places of the three blocks, which may be stored into. -/
structure Own (w : World) (b c r : Nat) : Prop where
  lb : b < w.heap.size
  lc : c < w.heap.size
  lr : r < w.heap.size
  bc : b ≠ c
  br : b ≠ r
  cr : c ≠ r
  fb : ∀ i, w.frozen? ⟨b, i, none⟩ = false
  fc : ∀ i, w.frozen? ⟨c, i, none⟩ = false
  fr : ∀ i, w.frozen? ⟨r, i, none⟩ = false
/-- Memory m stands at blocks b, c, r; which cells may be taken, F tells. -/
structure AtF (w : World) (b c r : Nat) (m : M) (F : List Bool) : Prop where
  own : Own w b c r
  head : Head w b c r m.cells.length m.count m.live m.stale
  cl : Cells w c m.cells
  rw : Rows w r m.cells.length F
def At (w : World) (b c r : Nat) (m : M) : Prop := AtF w b c r m m.flags

/-- All but three blocks is as it was. -/
structure Kept (b c r : Nat) (w w' : World) : Prop where
  os : w'.os = w.os
  tape : w'.tape = w.tape
  output : w'.output = w.output
  size : w.heap.size ≤ w'.heap.size
  block : ∀ k, k < w.heap.size → k ≠ b → k ≠ c → k ≠ r → w'.heap[k]? = w.heap[k]?
theorem Kept.refl (b c r : Nat) (w : World) : Kept b c r w w := ⟨rfl, rfl, rfl, Nat.le_refl _, fun _ _ _ _ _ => rfl⟩
theorem Kept.trans {b c r : Nat} {w1 w2 w3 : World} (h : Kept b c r w1 w2) (k : Kept b c r w2 w3) : Kept b c r w1 w3 :=
  ⟨k.os.trans h.os, k.tape.trans h.tape, k.output.trans h.output, Nat.le_trans h.size k.size, fun i hi hb hc hr => (k.block i (Nat.lt_of_lt_of_le hi h.size) hb hc hr).trans (h.block i hi hb hc hr)⟩
theorem Kept.below {b c r : Nat} {w w' : World} (h : Kept b c r w w') {B : Nat} (hB : B ≤ w.heap.size) (hb : B ≤ b) (hc : B ≤ c) (hr : B ≤ r) : Below B w w' :=
  ⟨h.os, h.tape, h.output, h.size, fun k hk => h.block k (by omega) (by omega) (by omega) (by omega)⟩
theorem Kept.of {b c r : Nat} {w w' : World} (h : Below w.heap.size w w') : Kept b c r w w' := ⟨h.os, h.tape, h.output, h.size, fun k hk _ _ _ => h.block k hk⟩
theorem Kept.set {b c r : Nat} {w w' : World} (h : Kept b c r w w') {a : Addr} (ha : a.block = b ∨ a.block = c ∨ a.block = r) (u : Value) : Kept b c r w (w'.setCell a u) :=
  h.trans ⟨rfl, rfl, rfl, by simp [World.setCell], fun k _ hb hc hr => Below.heap_setCell _ _ _ _ (by rcases ha with ha | ha | ha <;> rw [ha] <;> assumption)⟩
theorem Kept.cell {b c r : Nat} {w w' : World} (h : Kept b c r w w') {p : Addr} (hp : p.block < w.heap.size) (hb : p.block ≠ b) (hc : p.block ≠ c) (hr : p.block ≠ r) : w'.cell? p = w.cell? p :=
  World.cell?_of_block (w := w) (h.block p.block hp hb hc hr)

theorem set_other {w : World} {b i b' i' : Nat} {u x : Value} (h : w.cell? ⟨b', i', none⟩ = some x) (hn : b ≠ b' ∨ i ≠ i') : (w.setCell ⟨b, i, none⟩ u).cell? ⟨b', i', none⟩ = some x := by
  rw [World.cell?_setCell_other w ⟨b, i, none⟩ ⟨b', i', none⟩ u (by
    simp only [ne_eq, Addr.mk.injEq, not_and]
    rcases hn with hn | hn
    · exact fun e => absurd e hn
    · exact fun _ e => absurd e hn)]
  exact h
theorem set_same {w : World} {b i : Nat} {u x : Value} (h : w.cell? ⟨b, i, none⟩ = some x) : (w.setCell ⟨b, i, none⟩ u).cell? ⟨b, i, none⟩ = some u := World.cell?_setCell_same w ⟨b, i, none⟩ u h
theorem Own.set {w : World} {b c r : Nat} (h : Own w b c r) (a : Addr) (u : Value) : Own (w.setCell a u) b c r := by
  have e : (w.setCell a u).heap.size = w.heap.size := by simp [World.setCell]
  exact ⟨by rw [e]; exact h.lb, by rw [e]; exact h.lc, by rw [e]; exact h.lr, h.bc, h.br, h.cr, fun i => by rw [World.frozen?_setCell]; exact h.fb i, fun i => by rw [World.frozen?_setCell]; exact h.fc i, fun i => by rw [World.frozen?_setCell]; exact h.fr i⟩
theorem Head.other {w : World} {b c r n : Nat} {x y z : Int} (h : Head w b c r n x y z) {p : Nat} (hp : p ≠ b) (i : Nat) (u : Value) : Head (w.setCell ⟨p, i, none⟩ u) b c r n x y z :=
  ⟨set_other h.h0 (.inl hp), set_other h.h1 (.inl hp), set_other h.h2 (.inl hp), set_other h.h3 (.inl hp), set_other h.h4 (.inl hp)⟩
theorem CAt.other {w : World} {c o : Nat} {x : Cl} (h : CAt w c o x) {p i : Nat} (hp : p ≠ c ∨ i < o ∨ o + 4 ≤ i) (u : Value) : CAt (w.setCell ⟨p, i, none⟩ u) c o x :=
  ⟨set_other h.1 (by omega), set_other h.2.1 (by omega), set_other h.2.2.1 (by omega), set_other h.2.2.2 (by omega)⟩
theorem Cells.other {w : World} {c : Nat} {L : List Cl} (h : Cells w c L) {p : Nat} (hp : p ≠ c) (i : Nat) (u : Value) : Cells (w.setCell ⟨p, i, none⟩ u) c L :=
  fun k x hx => (h k x hx).other (.inl hp) u
theorem Rows.other {w : World} {r n : Nat} {F : List Bool} (h : Rows w r n F) {p : Nat} (hp : p ≠ r) (i : Nat) (u : Value) : Rows (w.setCell ⟨p, i, none⟩ u) r n F :=
  fun j hj => set_other (h j hj) (.inl hp)
theorem CAt.put0 {w : World} {c o : Nat} {x : Cl} (h : CAt w c o x) (t : Held) : CAt (w.setCell ⟨c, o, none⟩ t.v) c o { x with held := t } :=
  ⟨set_same h.1, set_other h.2.1 (by omega), set_other h.2.2.1 (by omega), set_other h.2.2.2 (by omega)⟩
theorem CAt.put1 {w : World} {c o : Nat} {x : Cl} (h : CAt w c o x) (t : Int) : CAt (w.setCell ⟨c, o + 1, none⟩ (.int .i64 t)) c o { x with gen := t } :=
  ⟨set_other h.1 (by omega), set_same h.2.1, set_other h.2.2.1 (by omega), set_other h.2.2.2 (by omega)⟩
theorem CAt.put2 {w : World} {c o : Nat} {x : Cl} (h : CAt w c o x) (t : Bool) : CAt (w.setCell ⟨c, o + 2, none⟩ (.bool t)) c o { x with ret := t } :=
  ⟨set_other h.1 (by omega), set_other h.2.1 (by omega), set_same h.2.2.1, set_other h.2.2.2 (by omega)⟩
theorem CAt.put3 {w : World} {c o : Nat} {x : Cl} (h : CAt w c o x) (t : Int) : CAt (w.setCell ⟨c, o + 3, none⟩ (.int .i64 t)) c o { x with stamp := t } :=
  ⟨set_other h.1 (by omega), set_other h.2.1 (by omega), set_other h.2.2.1 (by omega), set_same h.2.2.2⟩
/-- A store into cell i's place, by what it makes of that cell. -/
theorem Cells.put {w : World} {c : Nat} {L : List Cl} (h : Cells w c L) {i : Nat} {y : Cl} {o : Nat} (ho : i * 4 ≤ o ∧ o < i * 4 + 4) {u : Value} (hy : CAt (w.setCell ⟨c, o, none⟩ u) c (i * 4) y) : Cells (w.setCell ⟨c, o, none⟩ u) c (L.set i y) := by
  intro k z hz
  rw [List.getElem?_set] at hz
  split at hz
  · rename_i e
    subst e
    split at hz
    · cases hz; exact hy
    · cases hz
  · rename_i e
    exact (h k z hz).other (.inr (by omega)) u
theorem Rows.put {w : World} {r n : Nat} {F : List Bool} (h : Rows w r n F) {q : Nat} (x : Bool) : Rows (w.setCell ⟨r, q / 64, none⟩ (.int .u64 (rowAt (F.set q x) (q / 64) : Nat))) r n (F.set q x) := by
  intro j hj
  by_cases e : q / 64 = j
  · subst e
    exact set_same (h _ hj)
  · rw [rowAt_other F q x j e]
    exact set_other (h j hj) (.inr e)

theorem AtF.count {w : World} {b c r : Nat} {m : M} {F : List Bool} (h : AtF w b c r m F) (x : Int) : AtF (w.setCell ⟨b, 2, none⟩ (.int .i64 x)) b c r { m with count := x } F :=
  ⟨h.own.set _ _, ⟨set_other h.head.h0 (by omega), set_other h.head.h1 (by omega), set_same h.head.h2, set_other h.head.h3 (by omega), set_other h.head.h4 (by omega)⟩, h.cl.other h.own.bc _ _, h.rw.other h.own.br _ _⟩
theorem AtF.live {w : World} {b c r : Nat} {m : M} {F : List Bool} (h : AtF w b c r m F) (x : Int) : AtF (w.setCell ⟨b, 3, none⟩ (.int .i64 x)) b c r { m with live := x } F :=
  ⟨h.own.set _ _, ⟨set_other h.head.h0 (by omega), set_other h.head.h1 (by omega), set_other h.head.h2 (by omega), set_same h.head.h3, set_other h.head.h4 (by omega)⟩, h.cl.other h.own.bc _ _, h.rw.other h.own.br _ _⟩
theorem AtF.stale {w : World} {b c r : Nat} {m : M} {F : List Bool} (h : AtF w b c r m F) (x : Int) : AtF (w.setCell ⟨b, 4, none⟩ (.int .i64 x)) b c r { m with stale := x } F :=
  ⟨h.own.set _ _, ⟨set_other h.head.h0 (by omega), set_other h.head.h1 (by omega), set_other h.head.h2 (by omega), set_other h.head.h3 (by omega), set_same h.head.h4⟩, h.cl.other h.own.bc _ _, h.rw.other h.own.br _ _⟩
theorem AtF.row {w : World} {b c r : Nat} {m : M} {F : List Bool} (h : AtF w b c r m F) {q : Nat} (x : Bool) : AtF (w.setCell ⟨r, q / 64, none⟩ (.int .u64 (rowAt (F.set q x) (q / 64) : Nat))) b c r m (F.set q x) :=
  ⟨h.own.set _ _, h.head.other h.own.br.symm _ _, h.cl.other h.own.cr.symm _ _, h.rw.put x⟩
theorem AtF.put {w : World} {b c r : Nat} {m : M} {F : List Bool} (h : AtF w b c r m F) {i : Nat} {y : Cl} {o : Nat} (ho : i * 4 ≤ o ∧ o < i * 4 + 4) {u : Value} (hy : CAt (w.setCell ⟨c, o, none⟩ u) c (i * 4) y) : AtF (w.setCell ⟨c, o, none⟩ u) b c r { m with cells := m.cells.set i y } F :=
  ⟨h.own.set _ _, by show Head _ _ _ _ (m.cells.set i y).length _ _ _; rw [List.length_set]; exact h.head.other h.own.bc.symm _ _, h.cl.put ho hy, by show Rows _ _ (m.cells.set i y).length _; rw [List.length_set]; exact h.rw.other h.own.cr _ _⟩
theorem AtF.keep {w w' : World} {b c r : Nat} {m : M} {F : List Bool} (h : AtF w b c r m F) {B : Nat} (hb : Below B w w') (h1 : b < B) (h2 : c < B) (h3 : r < B) : AtF w' b c r m F := by
  have k1 : ∀ i, w'.cell? ⟨b, i, none⟩ = w.cell? ⟨b, i, none⟩ := fun i => hb.cell (p := ⟨b, i, none⟩) h1
  have k2 : ∀ i, w'.cell? ⟨c, i, none⟩ = w.cell? ⟨c, i, none⟩ := fun i => hb.cell (p := ⟨c, i, none⟩) h2
  have k3 : ∀ i, w'.cell? ⟨r, i, none⟩ = w.cell? ⟨r, i, none⟩ := fun i => hb.cell (p := ⟨r, i, none⟩) h3
  refine ⟨⟨Nat.lt_of_lt_of_le h.own.lb hb.size, Nat.lt_of_lt_of_le h.own.lc hb.size, Nat.lt_of_lt_of_le h.own.lr hb.size, h.own.bc, h.own.br, h.own.cr, fun i => ?_, fun i => ?_, fun i => ?_⟩, ⟨?_, ?_, ?_, ?_, ?_⟩, fun i x hx => ?_, fun j hj => ?_⟩
  · rw [hb.frozen (p := ⟨b, i, none⟩) h1]; exact h.own.fb i
  · rw [hb.frozen (p := ⟨c, i, none⟩) h2]; exact h.own.fc i
  · rw [hb.frozen (p := ⟨r, i, none⟩) h3]; exact h.own.fr i
  · rw [k1]; exact h.head.h0
  · rw [k1]; exact h.head.h1
  · rw [k1]; exact h.head.h2
  · rw [k1]; exact h.head.h3
  · rw [k1]; exact h.head.h4
  · unfold CAt
    rw [k2, k2, k2, k2]; exact h.cl i x hx
  · rw [k3]; exact h.rw j hj
theorem AtF.below {w w' : World} {b c r : Nat} {m : M} {F : List Bool} (h : AtF w b c r m F) (hb : Below w.heap.size w w') : AtF w' b c r m F := h.keep hb h.own.lb h.own.lc h.own.lr

theorem live_any (w : World) (b c r : Nat) (m : M) (h : At w b c r m) : Calls Tryd.prog 36 #[.pointer (some ⟨b, 0, none⟩)] w fun e w' => e = .returned (.int .i64 m.live) ∧ w = w' := by
  have h0 := h.head.h3
  go_enter Tryd.func36, Tryd.ntmps36
  go_wp2
  go_ret
  exact ⟨rfl, rfl⟩
end Go.Proofs.YtbcpdkmbbgcfbaaDoor
