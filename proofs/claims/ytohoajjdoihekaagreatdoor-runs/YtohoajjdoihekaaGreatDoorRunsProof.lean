/-
  Proved: for every code, every other code and every message, the call Runs(code, other, m) returns true, and each argument reads afterwards as it read before. No condition of our own: the listed package-level variable is the one that the program's text lays (the tied card).
-/
import Derived.Test.YtohoajjdoihekaaGreatDoorRx
set_option linter.unusedVariables false
set_option linter.unusedSimpArgs false
namespace Go.Proofs.YtohoajjdoihekaaGreatDoor
open Go.ChangeShapes Go.WideShapes Go.ChangeAt Go.RowKit Go.ChangeMaps
namespace cin
set_option maxRecDepth 100000 in
theorem runs_said : Rows.RunsSaid :=
 OpenClaim.holds_of_cond 4 Tryz.f4 rfl rfl rfl rfl rfl rfl rfl ⟨rfl, rfl, rfl, rfl, rfl⟩ rfl rfl rfl rfl rfl (by kernel_rfl) Tryz.func4 (by kernel_rfl)
  (of_decide_eq_true (by kernel_rfl)) (by unfold Func.isWrapper; first | (rw [if_pos (by decide +kernel)]; kernel_rfl) | (rw [if_neg (by decide +kernel)]; exact ⟨rfl, rfl⟩))
  (fun os started H enc _ F => by rw [OpenClaim.pre_eq_preRow]; exact pH os started H enc F)
end cin
theorem runs_card : Rows.RunsCardSaid :=
 Claim7.holds_tied_plain_at .later [] _ _ _ _ cin.runs_said (fun _ h => by cases h) (by kernel_rfl) (fun _ h => by cases h) runs_row_tie rfl ⟨rfl, rfl⟩ (by kernel_rfl) rfl cin.plainU (by kernel_rfl)
#print axioms runs_card
end Go.Proofs.YtohoajjdoihekaaGreatDoor
