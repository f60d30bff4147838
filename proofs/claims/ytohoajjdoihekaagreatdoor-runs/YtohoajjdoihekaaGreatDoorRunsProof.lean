/-
  Proved: for every code, every other code and every message, the call Runs(code, other, m) returns true, and each argument reads afterwards as it read before. No condition of our own: the listed package-level variable is the one that the program's text lays (the tied card).
-/
import Derived.Test.YtohoajjdoihekaaGreatDoorRx
set_option linter.unusedVariables false
set_option linter.unusedSimpArgs false
namespace Go.Proofs.YtohoajjdoihekaaGreatDoor
open Go.ChangeShapes Go.WideShapes Go.ChangeAt Go.RowKit Go.ChangeMaps
theorem runs_card : Rows.RunsCardSaid :=
 Claim7.holds_tied_plain_at .later [] _ _ _ _ cin.runs_said (fun _ h => by cases h) (by kernel_rfl) (fun _ h => by cases h) runs_row_tie rfl ⟨rfl, rfl⟩ (by kernel_rfl) rfl cin.plainU (by kernel_rfl)
#print axioms runs_card
end Go.Proofs.YtohoajjdoihekaaGreatDoor
