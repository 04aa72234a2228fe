/-
  DERIVED. GIVEN WITH THE SEED: THE CARDS: each row of YteiikkkcjpfapaaDoorRows.lean that lists a variable, with what it lists TIED to the program's text (the seventh form; the later family's looks); each row that meets fmt, with fmt's text TOLD by the authors' own Lean function (tested against real Go, not proved from fmt's source: count such statements apart). THE CARD IS WHAT COUNTS. Prove the row's statement (the work); the ties are given (YteiikkkcjpfapaaDoorTie.lean); close each card by the builder's one call (the guide's Derived/Test/ToyasCard.lean, 'card_holds'). Laid BY PROGRAM, IN A SANDBOX (cutbox-door.mjs). By AI agents, Wed Nov 11 2026. No macro, syntax, notation, axiom, sorry.
-/
import Derived.Test.YteiikkkcjpfapaaDoorRows
import GoSem.ClaimSeven
namespace Go.Proofs.YteiikkkcjpfapaaDoor
namespace Rows

/-- THE TIED CARD OF 'rundlelaw14.DescPlays'. -/
def descPlaysCard : Claim7 := { stood := { row := descPlaysRow, standIns := [], harness := (true, "dabb166a45f96e332085e9082dc7319c3ea03967f1631757993093748768dc3a"), looks := true }, kinds := [], alts := [], laidByText := true, laidKinds := [.data], laidTests := true, laidLooks := .later }
def DescPlaysCardSaid : Prop := Claim7.holds Tryd.pinned (.plain (OpenSpec.ofChange descPlaysSpec)) descPlaysCard

/-- THE TIED CARD OF 'rundlelaw14.DescHelped'. -/
def descHelpedCard : Claim7 := { stood := { row := descHelpedRow, standIns := [], harness := (true, "dabb166a45f96e332085e9082dc7319c3ea03967f1631757993093748768dc3a"), looks := true }, kinds := [], alts := [], laidByText := true, laidKinds := [.data], laidTests := true, laidLooks := .later }
def DescHelpedCardSaid : Prop := Claim7.holds Tryd.pinned (.plain (OpenSpec.ofChange descHelpedSpec)) descHelpedCard

/-- THE TIED CARD OF 'rundlelaw14.DescCounts'. -/
def descCountsCard : Claim7 := { stood := { row := descCountsRow, standIns := [], harness := (true, "dabb166a45f96e332085e9082dc7319c3ea03967f1631757993093748768dc3a"), looks := true }, kinds := [], alts := [], laidByText := true, laidKinds := [.data], laidTests := true, laidLooks := .later }
def DescCountsCardSaid : Prop := Claim7.holds Tryd.pinned (.plain (OpenSpec.ofChange descCountsSpec)) descCountsCard

/-- THE TIED CARD OF 'rundlelaw14.DescFull'. -/
def descFullCard : Claim7 := { stood := { row := descFullRow, standIns := [], harness := (true, "dabb166a45f96e332085e9082dc7319c3ea03967f1631757993093748768dc3a"), looks := true }, kinds := [], alts := [], laidByText := true, laidKinds := [.data], laidTests := true, laidLooks := .later }
def DescFullCardSaid : Prop := Claim7.holds Tryd.pinned (.plain (OpenSpec.ofChange descFullSpec)) descFullCard

/-- THE TIED CARD OF 'rundlelaw14.DescRefuses'. -/
def descRefusesCard : Claim7 := { stood := { row := descRefusesRow, standIns := [], harness := (true, "dabb166a45f96e332085e9082dc7319c3ea03967f1631757993093748768dc3a"), looks := true }, kinds := [], alts := [], laidByText := true, laidKinds := [.data], laidTests := true, laidLooks := .later }
def DescRefusesCardSaid : Prop := Claim7.holds Tryd.pinned (.plain (OpenSpec.ofChange descRefusesSpec)) descRefusesCard

/-- THE SECOND FORM's CARD OF 'rundlelaw14.DescPlays'. -/
def descPlaysUptoCard : Claim7 := { stood := { row := descPlaysUptoRow, standIns := [], harness := (true, "dabb166a45f96e332085e9082dc7319c3ea03967f1631757993093748768dc3a"), looks := true }, kinds := [], alts := [], laidByText := true, laidKinds := [.data], laidTests := true, laidLooks := .later }
def DescPlaysUptoCardSaid : Prop := Claim7.holds Tryd.pinned (.plain (OpenSpec.upto descPlaysSpec)) descPlaysUptoCard

/-- THE SECOND FORM's CARD OF 'rundlelaw14.DescHelped'. -/
def descHelpedUptoCard : Claim7 := { stood := { row := descHelpedUptoRow, standIns := [], harness := (true, "dabb166a45f96e332085e9082dc7319c3ea03967f1631757993093748768dc3a"), looks := true }, kinds := [], alts := [], laidByText := true, laidKinds := [.data], laidTests := true, laidLooks := .later }
def DescHelpedUptoCardSaid : Prop := Claim7.holds Tryd.pinned (.plain (OpenSpec.upto descHelpedSpec)) descHelpedUptoCard

/-- THE SECOND FORM's CARD OF 'rundlelaw14.DescCounts'. -/
def descCountsUptoCard : Claim7 := { stood := { row := descCountsUptoRow, standIns := [], harness := (true, "dabb166a45f96e332085e9082dc7319c3ea03967f1631757993093748768dc3a"), looks := true }, kinds := [], alts := [], laidByText := true, laidKinds := [.data], laidTests := true, laidLooks := .later }
def DescCountsUptoCardSaid : Prop := Claim7.holds Tryd.pinned (.plain (OpenSpec.upto descCountsSpec)) descCountsUptoCard

/-- THE SECOND FORM's CARD OF 'rundlelaw14.DescFull'. -/
def descFullUptoCard : Claim7 := { stood := { row := descFullUptoRow, standIns := [], harness := (true, "dabb166a45f96e332085e9082dc7319c3ea03967f1631757993093748768dc3a"), looks := true }, kinds := [], alts := [], laidByText := true, laidKinds := [.data], laidTests := true, laidLooks := .later }
def DescFullUptoCardSaid : Prop := Claim7.holds Tryd.pinned (.plain (OpenSpec.upto descFullSpec)) descFullUptoCard

/-- THE SECOND FORM's CARD OF 'rundlelaw14.DescRefuses'. -/
def descRefusesUptoCard : Claim7 := { stood := { row := descRefusesUptoRow, standIns := [], harness := (true, "dabb166a45f96e332085e9082dc7319c3ea03967f1631757993093748768dc3a"), looks := true }, kinds := [], alts := [], laidByText := true, laidKinds := [.data], laidTests := true, laidLooks := .later }
def DescRefusesUptoCardSaid : Prop := Claim7.holds Tryd.pinned (.plain (OpenSpec.upto descRefusesSpec)) descRefusesUptoCard
end Rows
end Go.Proofs.YteiikkkcjpfapaaDoor
