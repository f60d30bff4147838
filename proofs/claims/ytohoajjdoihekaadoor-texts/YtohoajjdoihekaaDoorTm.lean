/-
  Small numbers in tens, the document's way.
-/
import Derived.Test.YtohoajjdoihekaaDoorTk
import Derived.Laws.BytesArg
import Derived.Deep.RegionWith
set_option linter.unusedVariables false
set_option linter.unusedSimpArgs false
namespace Go.Proofs.YtohoajjdoihekaaDoor
open Go.RowKit
namespace cin
/-- a slice of one byte as a string -/
theorem cvt1 (c : Int) (w : World) : (convert 32 9 (.slice (some ⟨w.heap.size, 0, none⟩) 1 1)).run Tryd.prog (w.alloc (.cells #[.int .u8 c] 5)) = .ok (.string ⟨#[UInt8.ofNat c.toNat]⟩) (w.alloc (.cells #[.int .u8 c] 5)) := by
  have h := run_convert_bytes_arg (P := Tryd.prog) (w.alloc (.cells #[.int .u8 c] 5)) 32 5 (by kernel_rfl) (by kernel_rfl) w.heap.size 0 1 1 [c] rfl (fun i hi => by
    obtain rfl : i = 0 := by omega
    simp) 9 (by kernel_rfl)
  exact h
set_option maxRecDepth 100000 in
theorem dec_small_any (k : Nat) (hk : k < 10) (w : World) : Calls Tryd.prog 36 #[.int .i64 (k : Int)] w fun e w' => e = .returned (.string (dcs k)) ∧ Below w.heap.size w w' := by
  have HD : Hid (dcs k = ⟨#[UInt8.ofNat (48 + (k : Int)).toNat]⟩) := by
    show _ = _
    unfold dcs
    rw [if_pos hk]
    congr 4
  have hcv := cvt1 (48 + (k : Int))
  go_enter Tryd.func36, Tryd.ntmps36
  go_wp2
  go_ret
  exact ⟨by rw [HD.out]; rfl, bal (Below.refl _ _) _⟩
end cin
end Go.Proofs.YtohoajjdoihekaaDoor
