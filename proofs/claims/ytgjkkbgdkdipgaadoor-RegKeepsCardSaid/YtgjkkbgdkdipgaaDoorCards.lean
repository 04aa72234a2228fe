/-
  DERIVED. GIVEN WITH THE SEED: THE CARDS: each row of YtgjkkbgdkdipgaaDoorRows.lean that lists a variable, with what it lists TIED to the program's text (the seventh form; the later family's looks); each row that meets fmt, with fmt's text TOLD by the authors' own Lean function (tested against real Go, not proved from fmt's source: count such statements apart). THE CARD IS WHAT COUNTS. Prove the row's statement (the work); the ties are given (YtgjkkbgdkdipgaaDoorTie.lean); close each card by the builder's one call (the guide's Derived/Test/ToyasCard.lean, 'card_holds'). Laid BY PROGRAM, IN A SANDBOX (cutbox-door.mjs). By AI agents, Wed Nov 11 2026. No macro, syntax, notation, axiom, sorry.
-/
import Derived.Test.YtgjkkbgdkdipgaaDoorRows
import GoSem.ClaimSeven
namespace Go.Proofs.YtgjkkbgdkdipgaaDoor
namespace Rows

/-- THE TIED CARD OF 'rundlelaw15.RegPlays'. -/
def regPlaysCard : Claim7 := { stood := { row := regPlaysRow, standIns := [], harness := (true, "5306a59c1bbe30b417e020cac900e12d4cfaed9c1b9dedfc079d28f2e3284da8"), looks := true }, kinds := [], alts := [], laidByText := true, laidKinds := [.data], laidTests := true, laidLooks := .later }
def RegPlaysCardSaid : Prop := Claim7.holds Tryd.pinned (.plain (OpenSpec.ofChange regPlaysSpec)) regPlaysCard

/-- THE TIED CARD OF 'rundlelaw15.RegKeeps'. -/
def regKeepsCard : Claim7 := { stood := { row := regKeepsRow, standIns := [], harness := (true, "5306a59c1bbe30b417e020cac900e12d4cfaed9c1b9dedfc079d28f2e3284da8"), looks := true }, kinds := [], alts := [], laidByText := true, laidKinds := [.data], laidTests := true, laidLooks := .later }
def RegKeepsCardSaid : Prop := Claim7.holds Tryd.pinned (.plain (OpenSpec.ofChange regKeepsSpec)) regKeepsCard

/-- THE TIED CARD OF 'rundlelaw15.RegIds'. -/
def regIdsCard : Claim7 := { stood := { row := regIdsRow, standIns := [], harness := (true, "5306a59c1bbe30b417e020cac900e12d4cfaed9c1b9dedfc079d28f2e3284da8"), looks := true }, kinds := [], alts := [], laidByText := true, laidKinds := [.data], laidTests := true, laidLooks := .later }
def RegIdsCardSaid : Prop := Claim7.holds Tryd.pinned (.plain (OpenSpec.ofChange regIdsSpec)) regIdsCard

/-- THE TIED CARD OF 'rundlelaw15.RegFull'. -/
def regFullCard : Claim7 := { stood := { row := regFullRow, standIns := [], harness := (true, "5306a59c1bbe30b417e020cac900e12d4cfaed9c1b9dedfc079d28f2e3284da8"), looks := true }, kinds := [], alts := [], laidByText := true, laidKinds := [.data], laidTests := true, laidLooks := .later }
def RegFullCardSaid : Prop := Claim7.holds Tryd.pinned (.plain (OpenSpec.ofChange regFullSpec)) regFullCard

/-- THE SECOND FORM's CARD OF 'rundlelaw15.RegPlays'. -/
def regPlaysUptoCard : Claim7 := { stood := { row := regPlaysUptoRow, standIns := [], harness := (true, "5306a59c1bbe30b417e020cac900e12d4cfaed9c1b9dedfc079d28f2e3284da8"), looks := true }, kinds := [], alts := [], laidByText := true, laidKinds := [.data], laidTests := true, laidLooks := .later }
def RegPlaysUptoCardSaid : Prop := Claim7.holds Tryd.pinned (.plain (OpenSpec.upto regPlaysSpec)) regPlaysUptoCard

/-- THE SECOND FORM's CARD OF 'rundlelaw15.RegKeeps'. -/
def regKeepsUptoCard : Claim7 := { stood := { row := regKeepsUptoRow, standIns := [], harness := (true, "5306a59c1bbe30b417e020cac900e12d4cfaed9c1b9dedfc079d28f2e3284da8"), looks := true }, kinds := [], alts := [], laidByText := true, laidKinds := [.data], laidTests := true, laidLooks := .later }
def RegKeepsUptoCardSaid : Prop := Claim7.holds Tryd.pinned (.plain (OpenSpec.upto regKeepsSpec)) regKeepsUptoCard

/-- THE SECOND FORM's CARD OF 'rundlelaw15.RegIds'. -/
def regIdsUptoCard : Claim7 := { stood := { row := regIdsUptoRow, standIns := [], harness := (true, "5306a59c1bbe30b417e020cac900e12d4cfaed9c1b9dedfc079d28f2e3284da8"), looks := true }, kinds := [], alts := [], laidByText := true, laidKinds := [.data], laidTests := true, laidLooks := .later }
def RegIdsUptoCardSaid : Prop := Claim7.holds Tryd.pinned (.plain (OpenSpec.upto regIdsSpec)) regIdsUptoCard

/-- THE SECOND FORM's CARD OF 'rundlelaw15.RegFull'. -/
def regFullUptoCard : Claim7 := { stood := { row := regFullUptoRow, standIns := [], harness := (true, "5306a59c1bbe30b417e020cac900e12d4cfaed9c1b9dedfc079d28f2e3284da8"), looks := true }, kinds := [], alts := [], laidByText := true, laidKinds := [.data], laidTests := true, laidLooks := .later }
def RegFullUptoCardSaid : Prop := Claim7.holds Tryd.pinned (.plain (OpenSpec.upto regFullSpec)) regFullUptoCard
end Rows
end Go.Proofs.YtgjkkbgdkdipgaaDoor
