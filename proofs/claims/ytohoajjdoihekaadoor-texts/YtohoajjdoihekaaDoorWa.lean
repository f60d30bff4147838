/-
  The walks of package word's functions on limbs: sums and differences.
-/
import Derived.Test.YtohoajjdoihekaaDoorRows
import Derived.Test.YtohoajjdoihekaaDoorNumC
import Derived.WalkKit
import Derived.WalkSpells
import Derived.WalkLawsBesides
import Derived.BigRegion
import Derived.Deep.RegionWith
import Derived.Deep.QuietTactic
import Derived.BigQuiet
import Derived.Shelf.Spec.BitsCarry
set_option linter.unusedVariables false
set_option linter.unusedSimpArgs false
namespace Go.Proofs.YtohoajjdoihekaaDoor
open Go.RowKit
namespace cin
theorem call_add64 (x y c : Int) (hx : 0 ≤ x) (hy : 0 ≤ y) (hc0 : 0 ≤ c) (hc : c ≤ 1) (w : World) :
    (callFunc 51 #[.int .u64 x, .int .u64 y, .int .u64 c]).run Tryd.prog w =
      .ok (.value (.tuple #[.int .u64 ((x + y + c) % 18446744073709551616), .int .u64 ((x + y + c) / 18446744073709551616)])) w := by
  rw [run_callFunc_extern Tryd.func51 (by kernel_rfl) (by kernel_rfl) (by kernel_rfl) (e := add64Entry) (by kernel_rfl), run_add64 x y c hx hy hc0 hc]
  rfl
theorem call_add_k (a b k : Nat) (hk : k < 4) (w : World) : (callFunc 51 #[.int .u64 (limb a k), .int .u64 (limb b k), .int .u64 (cy a b k)]).run Tryd.prog w = .ok (.value (.tuple #[.int .u64 (limb (a + b) k), .int .u64 (cy a b (k + 1) : Int)])) w := by
  have h := cy_le a b k
  rw [call_add64 _ _ _ (limb_lo _ _) (limb_lo _ _) (by omega) (by omega), add_limb a b k hk, add_cy a b k hk]

end cin
end Go.Proofs.YtohoajjdoihekaaDoor
