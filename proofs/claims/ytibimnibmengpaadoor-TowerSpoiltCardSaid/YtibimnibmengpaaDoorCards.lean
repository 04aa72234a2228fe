/-
  DERIVED. GIVEN WITH THE SEED: THE CARDS: each row of YtibimnibmengpaaDoorRows.lean that lists a variable, with what it lists TIED to the program's text (the seventh form; the later family's looks); each row that meets fmt, with fmt's text TOLD by the authors' own Lean function (tested against real Go, not proved from fmt's source: count such statements apart). THE CARD IS WHAT COUNTS. Prove the row's statement (the work); the ties are given (YtibimnibmengpaaDoorTie.lean); close each card by the builder's one call (the guide's Derived/Test/ToyasCard.lean, 'card_holds'). Laid BY PROGRAM, IN A SANDBOX (cutbox-door.mjs). By AI agents, Wed Nov 11 2026. No macro, syntax, notation, axiom, sorry.
-/
import Derived.Test.YtibimnibmengpaaDoorRows
import GoSem.ClaimSeven
namespace Go.Proofs.YtibimnibmengpaaDoor
namespace Rows

/-- THE TIED CARD OF 'rundlelaw17.TowerFinds'. -/
def towerFindsCard : Claim7 := { stood := { row := towerFindsRow, standIns := [], harness := (true, "14604635f92d9568bb9f1ed6e62587e6ac04bf37441b5d8615921023fbf13166"), looks := true }, kinds := [], alts := [], laidByText := true, laidKinds := [.data], laidTests := true, laidLooks := .later }
def TowerFindsCardSaid : Prop := Claim7.holds Tryd.pinned (.plain (OpenSpec.ofChange towerFindsSpec)) towerFindsCard

/-- THE TIED CARD OF 'rundlelaw17.TowerWalks'. -/
def towerWalksCard : Claim7 := { stood := { row := towerWalksRow, standIns := [], harness := (true, "14604635f92d9568bb9f1ed6e62587e6ac04bf37441b5d8615921023fbf13166"), looks := true }, kinds := [], alts := [], laidByText := true, laidKinds := [.data], laidTests := true, laidLooks := .later }
def TowerWalksCardSaid : Prop := Claim7.holds Tryd.pinned (.plain (OpenSpec.ofChange towerWalksSpec)) towerWalksCard

/-- THE TIED CARD OF 'rundlelaw17.TowerLeads'. -/
def towerLeadsCard : Claim7 := { stood := { row := towerLeadsRow, standIns := [], harness := (true, "14604635f92d9568bb9f1ed6e62587e6ac04bf37441b5d8615921023fbf13166"), looks := true }, kinds := [], alts := [], laidByText := true, laidKinds := [.data], laidTests := true, laidLooks := .later }
def TowerLeadsCardSaid : Prop := Claim7.holds Tryd.pinned (.plain (OpenSpec.ofChange towerLeadsSpec)) towerLeadsCard

/-- THE TIED CARD OF 'rundlelaw17.TowerSpoilt'. -/
def towerSpoiltCard : Claim7 := { stood := { row := towerSpoiltRow, standIns := [], harness := (true, "14604635f92d9568bb9f1ed6e62587e6ac04bf37441b5d8615921023fbf13166"), looks := true }, kinds := [], alts := [], laidByText := true, laidKinds := [.data], laidTests := true, laidLooks := .later }
def TowerSpoiltCardSaid : Prop := Claim7.holds Tryd.pinned (.plain (OpenSpec.ofChange towerSpoiltSpec)) towerSpoiltCard

/-- THE TIED CARD OF 'rundlelaw17.TowerPasses'. -/
def towerPassesCard : Claim7 := { stood := { row := towerPassesRow, standIns := [], harness := (true, "14604635f92d9568bb9f1ed6e62587e6ac04bf37441b5d8615921023fbf13166"), looks := true }, kinds := [], alts := [], laidByText := true, laidKinds := [.data], laidTests := true, laidLooks := .later }
def TowerPassesCardSaid : Prop := Claim7.holds Tryd.pinned (.plain (OpenSpec.ofChange towerPassesSpec)) towerPassesCard

/-- THE TIED CARD OF 'rundlelaw17.TowerRefuses'. -/
def towerRefusesCard : Claim7 := { stood := { row := towerRefusesRow, standIns := [], harness := (true, "14604635f92d9568bb9f1ed6e62587e6ac04bf37441b5d8615921023fbf13166"), looks := true }, kinds := [], alts := [], laidByText := true, laidKinds := [.data], laidTests := true, laidLooks := .later }
def TowerRefusesCardSaid : Prop := Claim7.holds Tryd.pinned (.plain (OpenSpec.ofChange towerRefusesSpec)) towerRefusesCard

/-- THE TIED CARD OF 'rundlelaw17.TowerSame'. -/
def towerSameCard : Claim7 := { stood := { row := towerSameRow, standIns := [], harness := (true, "14604635f92d9568bb9f1ed6e62587e6ac04bf37441b5d8615921023fbf13166"), looks := true }, kinds := [], alts := [], laidByText := true, laidKinds := [.data], laidTests := true, laidLooks := .later }
def TowerSameCardSaid : Prop := Claim7.holds Tryd.pinned (.plain (OpenSpec.ofChange towerSameSpec)) towerSameCard

/-- THE SECOND FORM's CARD OF 'rundlelaw17.TowerFinds'. -/
def towerFindsUptoCard : Claim7 := { stood := { row := towerFindsUptoRow, standIns := [], harness := (true, "14604635f92d9568bb9f1ed6e62587e6ac04bf37441b5d8615921023fbf13166"), looks := true }, kinds := [], alts := [], laidByText := true, laidKinds := [.data], laidTests := true, laidLooks := .later }
def TowerFindsUptoCardSaid : Prop := Claim7.holds Tryd.pinned (.plain (OpenSpec.upto towerFindsSpec)) towerFindsUptoCard

/-- THE SECOND FORM's CARD OF 'rundlelaw17.TowerWalks'. -/
def towerWalksUptoCard : Claim7 := { stood := { row := towerWalksUptoRow, standIns := [], harness := (true, "14604635f92d9568bb9f1ed6e62587e6ac04bf37441b5d8615921023fbf13166"), looks := true }, kinds := [], alts := [], laidByText := true, laidKinds := [.data], laidTests := true, laidLooks := .later }
def TowerWalksUptoCardSaid : Prop := Claim7.holds Tryd.pinned (.plain (OpenSpec.upto towerWalksSpec)) towerWalksUptoCard

/-- THE SECOND FORM's CARD OF 'rundlelaw17.TowerLeads'. -/
def towerLeadsUptoCard : Claim7 := { stood := { row := towerLeadsUptoRow, standIns := [], harness := (true, "14604635f92d9568bb9f1ed6e62587e6ac04bf37441b5d8615921023fbf13166"), looks := true }, kinds := [], alts := [], laidByText := true, laidKinds := [.data], laidTests := true, laidLooks := .later }
def TowerLeadsUptoCardSaid : Prop := Claim7.holds Tryd.pinned (.plain (OpenSpec.upto towerLeadsSpec)) towerLeadsUptoCard

/-- THE SECOND FORM's CARD OF 'rundlelaw17.TowerSpoilt'. -/
def towerSpoiltUptoCard : Claim7 := { stood := { row := towerSpoiltUptoRow, standIns := [], harness := (true, "14604635f92d9568bb9f1ed6e62587e6ac04bf37441b5d8615921023fbf13166"), looks := true }, kinds := [], alts := [], laidByText := true, laidKinds := [.data], laidTests := true, laidLooks := .later }
def TowerSpoiltUptoCardSaid : Prop := Claim7.holds Tryd.pinned (.plain (OpenSpec.upto towerSpoiltSpec)) towerSpoiltUptoCard

/-- THE SECOND FORM's CARD OF 'rundlelaw17.TowerPasses'. -/
def towerPassesUptoCard : Claim7 := { stood := { row := towerPassesUptoRow, standIns := [], harness := (true, "14604635f92d9568bb9f1ed6e62587e6ac04bf37441b5d8615921023fbf13166"), looks := true }, kinds := [], alts := [], laidByText := true, laidKinds := [.data], laidTests := true, laidLooks := .later }
def TowerPassesUptoCardSaid : Prop := Claim7.holds Tryd.pinned (.plain (OpenSpec.upto towerPassesSpec)) towerPassesUptoCard

/-- THE SECOND FORM's CARD OF 'rundlelaw17.TowerRefuses'. -/
def towerRefusesUptoCard : Claim7 := { stood := { row := towerRefusesUptoRow, standIns := [], harness := (true, "14604635f92d9568bb9f1ed6e62587e6ac04bf37441b5d8615921023fbf13166"), looks := true }, kinds := [], alts := [], laidByText := true, laidKinds := [.data], laidTests := true, laidLooks := .later }
def TowerRefusesUptoCardSaid : Prop := Claim7.holds Tryd.pinned (.plain (OpenSpec.upto towerRefusesSpec)) towerRefusesUptoCard

/-- THE SECOND FORM's CARD OF 'rundlelaw17.TowerSame'. -/
def towerSameUptoCard : Claim7 := { stood := { row := towerSameUptoRow, standIns := [], harness := (true, "14604635f92d9568bb9f1ed6e62587e6ac04bf37441b5d8615921023fbf13166"), looks := true }, kinds := [], alts := [], laidByText := true, laidKinds := [.data], laidTests := true, laidLooks := .later }
def TowerSameUptoCardSaid : Prop := Claim7.holds Tryd.pinned (.plain (OpenSpec.upto towerSameSpec)) towerSameUptoCard
end Rows
end Go.Proofs.YtibimnibmengpaaDoor
