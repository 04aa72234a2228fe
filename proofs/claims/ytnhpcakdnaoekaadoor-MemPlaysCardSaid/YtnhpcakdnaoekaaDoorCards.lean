/-
  DERIVED. GIVEN WITH THE SEED: THE CARDS: each row of YtnhpcakdnaoekaaDoorRows.lean that lists a variable, with what it lists TIED to the program's text (the seventh form; the later family's looks); each row that meets fmt, with fmt's text TOLD by the authors' own Lean function (tested against real Go, not proved from fmt's source: count such statements apart). THE CARD IS WHAT COUNTS. Prove the row's statement (the work); the ties are given (YtnhpcakdnaoekaaDoorTie.lean); close each card by the builder's one call (the guide's Derived/Test/ToyasCard.lean, 'card_holds'). Laid BY PROGRAM, IN A SANDBOX (cutbox-door.mjs). By AI agents, Wed Nov 11 2026. No macro, syntax, notation, axiom, sorry.
-/
import Derived.Test.YtnhpcakdnaoekaaDoorRows
import GoSem.ClaimSeven
namespace Go.Proofs.YtnhpcakdnaoekaaDoor
namespace Rows

/-- THE TIED CARD OF 'rundlelaw12.MemPlays'. -/
def memPlaysCard : Claim7 := { stood := { row := memPlaysRow, standIns := [], harness := (true, "2a991213d34cbd0380be7be8ba515f7143c3afa20579fbdb909d6464d4525b07"), looks := true }, kinds := [], alts := [], laidByText := true, laidKinds := [.data], laidTests := true, laidLooks := .later }
def MemPlaysCardSaid : Prop := Claim7.holds Tryd.pinned (.plain (OpenSpec.ofChange memPlaysSpec)) memPlaysCard

/-- THE TIED CARD OF 'rundlelaw12.MemStale'. -/
def memStaleCard : Claim7 := { stood := { row := memStaleRow, standIns := [], harness := (true, "2a991213d34cbd0380be7be8ba515f7143c3afa20579fbdb909d6464d4525b07"), looks := true }, kinds := [], alts := [], laidByText := true, laidKinds := [.data], laidTests := true, laidLooks := .later }
def MemStaleCardSaid : Prop := Claim7.holds Tryd.pinned (.plain (OpenSpec.ofChange memStaleSpec)) memStaleCard

/-- THE TIED CARD OF 'rundlelaw12.MemWords'. -/
def memWordsCard : Claim7 := { stood := { row := memWordsRow, standIns := [], harness := (true, "2a991213d34cbd0380be7be8ba515f7143c3afa20579fbdb909d6464d4525b07"), looks := true }, kinds := [], alts := [], laidByText := true, laidKinds := [.data], laidTests := true, laidLooks := .later }
def MemWordsCardSaid : Prop := Claim7.holds Tryd.pinned (.plain (OpenSpec.ofChange memWordsSpec)) memWordsCard

/-- THE TIED CARD OF 'rundlelaw12.MemReaps'. -/
def memReapsCard : Claim7 := { stood := { row := memReapsRow, standIns := [], harness := (true, "2a991213d34cbd0380be7be8ba515f7143c3afa20579fbdb909d6464d4525b07"), looks := true }, kinds := [], alts := [], laidByText := true, laidKinds := [.data], laidTests := true, laidLooks := .later }
def MemReapsCardSaid : Prop := Claim7.holds Tryd.pinned (.plain (OpenSpec.ofChange memReapsSpec)) memReapsCard

/-- THE TIED CARD OF 'rundlelaw12.MemEnds'. -/
def memEndsCard : Claim7 := { stood := { row := memEndsRow, standIns := [], harness := (true, "2a991213d34cbd0380be7be8ba515f7143c3afa20579fbdb909d6464d4525b07"), looks := true }, kinds := [], alts := [], laidByText := true, laidKinds := [.data], laidTests := true, laidLooks := .later }
def MemEndsCardSaid : Prop := Claim7.holds Tryd.pinned (.plain (OpenSpec.ofChange memEndsSpec)) memEndsCard

/-- THE SECOND FORM's CARD OF 'rundlelaw12.MemPlays'. -/
def memPlaysUptoCard : Claim7 := { stood := { row := memPlaysUptoRow, standIns := [], harness := (true, "2a991213d34cbd0380be7be8ba515f7143c3afa20579fbdb909d6464d4525b07"), looks := true }, kinds := [], alts := [], laidByText := true, laidKinds := [.data], laidTests := true, laidLooks := .later }
def MemPlaysUptoCardSaid : Prop := Claim7.holds Tryd.pinned (.plain (OpenSpec.upto memPlaysSpec)) memPlaysUptoCard

/-- THE SECOND FORM's CARD OF 'rundlelaw12.MemStale'. -/
def memStaleUptoCard : Claim7 := { stood := { row := memStaleUptoRow, standIns := [], harness := (true, "2a991213d34cbd0380be7be8ba515f7143c3afa20579fbdb909d6464d4525b07"), looks := true }, kinds := [], alts := [], laidByText := true, laidKinds := [.data], laidTests := true, laidLooks := .later }
def MemStaleUptoCardSaid : Prop := Claim7.holds Tryd.pinned (.plain (OpenSpec.upto memStaleSpec)) memStaleUptoCard

/-- THE SECOND FORM's CARD OF 'rundlelaw12.MemWords'. -/
def memWordsUptoCard : Claim7 := { stood := { row := memWordsUptoRow, standIns := [], harness := (true, "2a991213d34cbd0380be7be8ba515f7143c3afa20579fbdb909d6464d4525b07"), looks := true }, kinds := [], alts := [], laidByText := true, laidKinds := [.data], laidTests := true, laidLooks := .later }
def MemWordsUptoCardSaid : Prop := Claim7.holds Tryd.pinned (.plain (OpenSpec.upto memWordsSpec)) memWordsUptoCard

/-- THE SECOND FORM's CARD OF 'rundlelaw12.MemReaps'. -/
def memReapsUptoCard : Claim7 := { stood := { row := memReapsUptoRow, standIns := [], harness := (true, "2a991213d34cbd0380be7be8ba515f7143c3afa20579fbdb909d6464d4525b07"), looks := true }, kinds := [], alts := [], laidByText := true, laidKinds := [.data], laidTests := true, laidLooks := .later }
def MemReapsUptoCardSaid : Prop := Claim7.holds Tryd.pinned (.plain (OpenSpec.upto memReapsSpec)) memReapsUptoCard

/-- THE SECOND FORM's CARD OF 'rundlelaw12.MemEnds'. -/
def memEndsUptoCard : Claim7 := { stood := { row := memEndsUptoRow, standIns := [], harness := (true, "2a991213d34cbd0380be7be8ba515f7143c3afa20579fbdb909d6464d4525b07"), looks := true }, kinds := [], alts := [], laidByText := true, laidKinds := [.data], laidTests := true, laidLooks := .later }
def MemEndsUptoCardSaid : Prop := Claim7.holds Tryd.pinned (.plain (OpenSpec.upto memEndsSpec)) memEndsUptoCard
end Rows
end Go.Proofs.YtnhpcakdnaoekaaDoor
