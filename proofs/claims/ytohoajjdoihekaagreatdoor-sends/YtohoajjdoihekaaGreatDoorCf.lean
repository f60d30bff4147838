import Derived.Test.YtohoajjdoihekaaGreatDoorRows
import Derived.ProofKit
set_option linter.unusedVariables false
set_option linter.unusedSimpArgs false
set_option linter.defProp false
namespace Go.Proofs.YtohoajjdoihekaaGreatDoor
namespace cin
open Go.RowKit Go.Proofs.Tryz Tryz
set_option maxRecDepth 100000
set_option maxHeartbeats 8000000
def yw:joinedFacts pinned.checked.prog 5 f5 (Rows.OpenSpec.upto Rows.sendsSpec).bare Rows.sendsUptoRow=true:=by kernel_rfl
end cin
end Go.Proofs.YtohoajjdoihekaaGreatDoor
