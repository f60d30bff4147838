/-
  Proved: for every script of bulk at most 1048576, the call Sends(script) returns true, and the script reads afterwards as it read before. The bulk's bound is the given statement's own; the listed package-level variable is the one that the program's text lays (the tied card).
-/
import Derived.Test.YtohoajjdoihekaaGreatDoorCe
import Derived.Test.YtohoajjdoihekaaGreatDoorCf
set_option linter.unusedVariables false
set_option linter.unusedSimpArgs false
namespace Go.Proofs.YtohoajjdoihekaaGreatDoor
open Go.ChangeShapes Go.WideShapes Go.ChangeAt Go.RowKit Go.ChangeMaps
namespace cin
set_option maxRecDepth 100000 in
theorem sends_said : Rows.SendsUptoSaid :=
 OpenClaim.holds_of_cond 5 Tryz.f5 rfl rfl rfl rfl rfl rfl rfl ⟨rfl, rfl, rfl, rfl, rfl⟩ rfl rfl rfl rfl rfl (by kernel_rfl) Tryz.func5 yw
  (of_decide_eq_true (by kernel_rfl)) (by unfold Func.isWrapper; first | (rw [if_pos (by decide +kernel)]; kernel_rfl) | (rw [if_neg (by decide +kernel)]; exact ⟨rfl, rfl⟩))
  (fun os started H enc _ F => by rw [OpenClaim.pre_eq_preRow]; exact xS os started H enc F)
end cin
theorem sends_card : Rows.SendsUptoCardSaid :=
 Claim7.holds_tied_plain_at .later [] _ _ _ _ cin.sends_said (fun _ h => by cases h) (by kernel_rfl) (fun _ h => by cases h) sendsUpto_row_tie rfl ⟨rfl, rfl⟩ (by kernel_rfl) rfl cin.plainU (by kernel_rfl)
#print axioms sends_card
end Go.Proofs.YtohoajjdoihekaaGreatDoor
