/-
  DERIVED. GIVEN WITH THE SEED: THE CARDS: each row of YtohoajjdoihekaaGreatDoorRows.lean that lists a variable, with what it lists TIED to the program's text (the seventh form; the later family's looks); each row that meets fmt, with fmt's text TOLD by the authors' own Lean function (tested against real Go, not proved from fmt's source: count such statements apart). THE CARD IS WHAT COUNTS. Prove the row's statement (the work); the ties are given (YtohoajjdoihekaaGreatDoorTie.lean); close each card by the builder's one call (the guide's Derived/Test/ToyasCard.lean, 'card_holds'). Laid BY PROGRAM, IN A SANDBOX (cutbox-door.mjs). By AI agents, Wed Nov 11 2026. No macro, syntax, notation, axiom, sorry.
-/
import Derived.Test.YtohoajjdoihekaaGreatDoorRows
import GoSem.ClaimSeven
namespace Go.Proofs.YtohoajjdoihekaaGreatDoor
namespace Rows

/-- THE TIED CARD OF 'cinderkeep.Told'. -/
def toldCard : Claim7 := { stood := { row := toldRow, standIns := [], harness := (true, "653e7ef8929434f4e243a0e38eecfeefafaa9e63c01df75f9bb5361365683012"), looks := false }, kinds := [], alts := [], laidByText := true, laidKinds := [.data, .data, .data, .data], laidTests := true, laidLooks := .later }
def ToldCardSaid : Prop := Claim7.holds Tryz.pinned (.plain (OpenSpec.ofChange toldSpec)) toldCard

/-- THE TIED CARD OF 'cinderlaw.Runs'. -/
def runsCard : Claim7 := { stood := { row := runsRow, standIns := [], harness := (true, "653e7ef8929434f4e243a0e38eecfeefafaa9e63c01df75f9bb5361365683012"), looks := false }, kinds := [], alts := [], laidByText := true, laidKinds := [.data], laidTests := true, laidLooks := .later }
def RunsCardSaid : Prop := Claim7.holds Tryz.pinned (.plain (OpenSpec.ofChange runsSpec)) runsCard

/-- THE TIED CARD OF 'cinderlaw.Sends'. -/
def sendsCard : Claim7 := { stood := { row := sendsRow, standIns := [], harness := (true, "653e7ef8929434f4e243a0e38eecfeefafaa9e63c01df75f9bb5361365683012"), looks := false }, kinds := [], alts := [], laidByText := true, laidKinds := [.data], laidTests := true, laidLooks := .later }
def SendsCardSaid : Prop := Claim7.holds Tryz.pinned (.plain (OpenSpec.ofChange sendsSpec)) sendsCard

/-- THE TIED CARD OF 'cinderkeep.Reads'. -/
def readsCard : Claim7 := { stood := { row := readsRow, standIns := [], harness := (true, "653e7ef8929434f4e243a0e38eecfeefafaa9e63c01df75f9bb5361365683012"), looks := false }, kinds := [], alts := [], laidByText := true, laidKinds := [.data, .data, .data, .data], laidTests := true, laidLooks := .later }
def ReadsCardSaid : Prop := Claim7.holds Tryz.pinned (.plain (OpenSpec.ofChange readsSpec)) readsCard

/-- THE TIED CARD OF 'cinderkeep.Keeps'. -/
def keepsCard : Claim7 := { stood := { row := keepsRow, standIns := [], harness := (true, "653e7ef8929434f4e243a0e38eecfeefafaa9e63c01df75f9bb5361365683012"), looks := false }, kinds := [], alts := [], laidByText := true, laidKinds := [.data], laidTests := true, laidLooks := .later }
def KeepsCardSaid : Prop := Claim7.holds Tryz.pinned (.plain (OpenSpec.ofChange keepsSpec)) keepsCard

/-- THE TIED CARD OF 'cinderkeep.Confined'. -/
def confinedCard : Claim7 := { stood := { row := confinedRow, standIns := [], harness := (true, "653e7ef8929434f4e243a0e38eecfeefafaa9e63c01df75f9bb5361365683012"), looks := false }, kinds := [], alts := [], laidByText := true, laidKinds := [.data, .data, .data, .data], laidTests := true, laidLooks := .later }
def ConfinedCardSaid : Prop := Claim7.holds Tryz.pinned (.plain (OpenSpec.ofChange confinedSpec)) confinedCard

/-- THE SECOND FORM's CARD OF 'cinderkeep.Told'. -/
def toldUptoCard : Claim7 := { stood := { row := toldUptoRow, standIns := [], harness := (true, "653e7ef8929434f4e243a0e38eecfeefafaa9e63c01df75f9bb5361365683012"), looks := false }, kinds := [], alts := [], laidByText := true, laidKinds := [.data, .data, .data, .data], laidTests := true, laidLooks := .later }
def ToldUptoCardSaid : Prop := Claim7.holds Tryz.pinned (.plain (OpenSpec.upto toldSpec)) toldUptoCard

/-- THE SECOND FORM's CARD OF 'cinderlaw.Runs'. -/
def runsUptoCard : Claim7 := { stood := { row := runsUptoRow, standIns := [], harness := (true, "653e7ef8929434f4e243a0e38eecfeefafaa9e63c01df75f9bb5361365683012"), looks := false }, kinds := [], alts := [], laidByText := true, laidKinds := [.data], laidTests := true, laidLooks := .later }
def RunsUptoCardSaid : Prop := Claim7.holds Tryz.pinned (.plain (OpenSpec.upto runsSpec)) runsUptoCard

/-- THE SECOND FORM's CARD OF 'cinderlaw.Sends'. -/
def sendsUptoCard : Claim7 := { stood := { row := sendsUptoRow, standIns := [], harness := (true, "653e7ef8929434f4e243a0e38eecfeefafaa9e63c01df75f9bb5361365683012"), looks := false }, kinds := [], alts := [], laidByText := true, laidKinds := [.data], laidTests := true, laidLooks := .later }
def SendsUptoCardSaid : Prop := Claim7.holds Tryz.pinned (.plain (OpenSpec.upto sendsSpec)) sendsUptoCard

/-- THE SECOND FORM's CARD OF 'cinderkeep.Reads'. -/
def readsUptoCard : Claim7 := { stood := { row := readsUptoRow, standIns := [], harness := (true, "653e7ef8929434f4e243a0e38eecfeefafaa9e63c01df75f9bb5361365683012"), looks := false }, kinds := [], alts := [], laidByText := true, laidKinds := [.data, .data, .data, .data], laidTests := true, laidLooks := .later }
def ReadsUptoCardSaid : Prop := Claim7.holds Tryz.pinned (.plain (OpenSpec.upto readsSpec)) readsUptoCard

/-- THE SECOND FORM's CARD OF 'cinderkeep.Keeps'. -/
def keepsUptoCard : Claim7 := { stood := { row := keepsUptoRow, standIns := [], harness := (true, "653e7ef8929434f4e243a0e38eecfeefafaa9e63c01df75f9bb5361365683012"), looks := false }, kinds := [], alts := [], laidByText := true, laidKinds := [.data], laidTests := true, laidLooks := .later }
def KeepsUptoCardSaid : Prop := Claim7.holds Tryz.pinned (.plain (OpenSpec.upto keepsSpec)) keepsUptoCard

/-- THE SECOND FORM's CARD OF 'cinderkeep.Confined'. -/
def confinedUptoCard : Claim7 := { stood := { row := confinedUptoRow, standIns := [], harness := (true, "653e7ef8929434f4e243a0e38eecfeefafaa9e63c01df75f9bb5361365683012"), looks := false }, kinds := [], alts := [], laidByText := true, laidKinds := [.data, .data, .data, .data], laidTests := true, laidLooks := .later }
def ConfinedUptoCardSaid : Prop := Claim7.holds Tryz.pinned (.plain (OpenSpec.upto confinedSpec)) confinedUptoCard
end Rows
end Go.Proofs.YtohoajjdoihekaaGreatDoor
