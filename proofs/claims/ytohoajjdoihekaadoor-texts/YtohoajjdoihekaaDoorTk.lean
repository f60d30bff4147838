/-
  Names of instructions, the program's way: the numbered ones.
-/
import Derived.Test.YtohoajjdoihekaaDoorTj
import Derived.Deep.DeepCutAuto
set_option linter.unusedVariables false
set_option linter.unusedSimpArgs false
namespace Go.Proofs.YtohoajjdoihekaaDoor
open Go.RowKit
namespace cin
/-- a small number in tens -/
def dcs (k : Nat) : ByteArray := if k < 10 then ⟨#[UInt8.ofNat (48 + k)]⟩ else ⟨#[49, UInt8.ofNat (38 + k)]⟩
set_option maxRecDepth 100000 in
theorem itoa0 (w : World) : Calls Tryd.prog 49 #[.int .i64 0] w fun e w' => e = .returned (.string (dcs 0)) ∧ w' = w := by
  go_enter Tryd.func49, Tryd.ntmps49
  go_wp2
  go_ret
  exact ⟨by kernel_rfl, rfl⟩
set_option maxRecDepth 100000 in
theorem itoa1 (w : World) : Calls Tryd.prog 49 #[.int .i64 1] w fun e w' => e = .returned (.string (dcs 1)) ∧ w' = w := by
  go_enter Tryd.func49, Tryd.ntmps49
  go_wp2
  go_ret
  exact ⟨by kernel_rfl, rfl⟩
set_option maxRecDepth 100000 in
theorem itoa2 (w : World) : Calls Tryd.prog 49 #[.int .i64 2] w fun e w' => e = .returned (.string (dcs 2)) ∧ w' = w := by
  go_enter Tryd.func49, Tryd.ntmps49
  go_wp2
  go_ret
  exact ⟨by kernel_rfl, rfl⟩
set_option maxRecDepth 100000 in
theorem itoa3 (w : World) : Calls Tryd.prog 49 #[.int .i64 3] w fun e w' => e = .returned (.string (dcs 3)) ∧ w' = w := by
  go_enter Tryd.func49, Tryd.ntmps49
  go_wp2
  go_ret
  exact ⟨by kernel_rfl, rfl⟩
set_option maxRecDepth 100000 in
theorem itoa4 (w : World) : Calls Tryd.prog 49 #[.int .i64 4] w fun e w' => e = .returned (.string (dcs 4)) ∧ w' = w := by
  go_enter Tryd.func49, Tryd.ntmps49
  go_wp2
  go_ret
  exact ⟨by kernel_rfl, rfl⟩
set_option maxRecDepth 100000 in
theorem itoa5 (w : World) : Calls Tryd.prog 49 #[.int .i64 5] w fun e w' => e = .returned (.string (dcs 5)) ∧ w' = w := by
  go_enter Tryd.func49, Tryd.ntmps49
  go_wp2
  go_ret
  exact ⟨by kernel_rfl, rfl⟩
set_option maxRecDepth 100000 in
theorem itoa6 (w : World) : Calls Tryd.prog 49 #[.int .i64 6] w fun e w' => e = .returned (.string (dcs 6)) ∧ w' = w := by
  go_enter Tryd.func49, Tryd.ntmps49
  go_wp2
  go_ret
  exact ⟨by kernel_rfl, rfl⟩
set_option maxRecDepth 100000 in
theorem itoa7 (w : World) : Calls Tryd.prog 49 #[.int .i64 7] w fun e w' => e = .returned (.string (dcs 7)) ∧ w' = w := by
  go_enter Tryd.func49, Tryd.ntmps49
  go_wp2
  go_ret
  exact ⟨by kernel_rfl, rfl⟩
set_option maxRecDepth 100000 in
theorem itoa8 (w : World) : Calls Tryd.prog 49 #[.int .i64 8] w fun e w' => e = .returned (.string (dcs 8)) ∧ w' = w := by
  go_enter Tryd.func49, Tryd.ntmps49
  go_wp2
  go_ret
  exact ⟨by kernel_rfl, rfl⟩
set_option maxRecDepth 100000 in
theorem itoa9 (w : World) : Calls Tryd.prog 49 #[.int .i64 9] w fun e w' => e = .returned (.string (dcs 9)) ∧ w' = w := by
  go_enter Tryd.func49, Tryd.ntmps49
  go_wp2
  go_ret
  exact ⟨by kernel_rfl, rfl⟩
set_option maxRecDepth 100000 in
theorem itoa10 (w : World) : Calls Tryd.prog 49 #[.int .i64 10] w fun e w' => e = .returned (.string (dcs 10)) ∧ w' = w := by
  go_enter Tryd.func49, Tryd.ntmps49
  go_wp2
  go_ret
  exact ⟨by kernel_rfl, rfl⟩
set_option maxRecDepth 100000 in
theorem itoa11 (w : World) : Calls Tryd.prog 49 #[.int .i64 11] w fun e w' => e = .returned (.string (dcs 11)) ∧ w' = w := by
  go_enter Tryd.func49, Tryd.ntmps49
  go_wp2
  go_ret
  exact ⟨by kernel_rfl, rfl⟩
set_option maxRecDepth 100000 in
theorem itoa12 (w : World) : Calls Tryd.prog 49 #[.int .i64 12] w fun e w' => e = .returned (.string (dcs 12)) ∧ w' = w := by
  go_enter Tryd.func49, Tryd.ntmps49
  go_wp2
  go_ret
  exact ⟨by kernel_rfl, rfl⟩
set_option maxRecDepth 100000 in
theorem itoa13 (w : World) : Calls Tryd.prog 49 #[.int .i64 13] w fun e w' => e = .returned (.string (dcs 13)) ∧ w' = w := by
  go_enter Tryd.func49, Tryd.ntmps49
  go_wp2
  go_ret
  exact ⟨by kernel_rfl, rfl⟩
set_option maxRecDepth 100000 in
theorem itoa14 (w : World) : Calls Tryd.prog 49 #[.int .i64 14] w fun e w' => e = .returned (.string (dcs 14)) ∧ w' = w := by
  go_enter Tryd.func49, Tryd.ntmps49
  go_wp2
  go_ret
  exact ⟨by kernel_rfl, rfl⟩
set_option maxRecDepth 100000 in
theorem itoa15 (w : World) : Calls Tryd.prog 49 #[.int .i64 15] w fun e w' => e = .returned (.string (dcs 15)) ∧ w' = w := by
  go_enter Tryd.func49, Tryd.ntmps49
  go_wp2
  go_ret
  exact ⟨by kernel_rfl, rfl⟩
set_option maxRecDepth 100000 in
theorem itoa16 (w : World) : Calls Tryd.prog 49 #[.int .i64 16] w fun e w' => e = .returned (.string (dcs 16)) ∧ w' = w := by
  go_enter Tryd.func49, Tryd.ntmps49
  go_wp2
  go_ret
  exact ⟨by kernel_rfl, rfl⟩
theorem itoa_any (k : Nat) (hk : k ≤ 16) (w : World) : Calls Tryd.prog 49 #[.int .i64 (k : Int)] w fun e w' => e = .returned (.string (dcs k)) ∧ w' = w := by
  rcases (by omega : k = 0 ∨ k = 1 ∨ k = 2 ∨ k = 3 ∨ k = 4 ∨ k = 5 ∨ k = 6 ∨ k = 7 ∨ k = 8 ∨ k = 9 ∨ k = 10 ∨ k = 11 ∨ k = 12 ∨ k = 13 ∨ k = 14 ∨ k = 15 ∨ k = 16) with rfl | rfl | rfl | rfl | rfl | rfl | rfl | rfl | rfl | rfl | rfl | rfl | rfl | rfl | rfl | rfl | rfl
  · exact itoa0 w
  · exact itoa1 w
  · exact itoa2 w
  · exact itoa3 w
  · exact itoa4 w
  · exact itoa5 w
  · exact itoa6 w
  · exact itoa7 w
  · exact itoa8 w
  · exact itoa9 w
  · exact itoa10 w
  · exact itoa11 w
  · exact itoa12 w
  · exact itoa13 w
  · exact itoa14 w
  · exact itoa15 w
  · exact itoa16 w
theorem dcs_size (k : Nat) : (dcs k).size ≤ 2 := by
  unfold dcs
  split
  · show 1 ≤ 2; omega
  · show 2 ≤ 2; omega
def dup (i : Nat) : ByteArray := ⟨#[68, 85, 80]⟩ ++ dcs (i + 1)
def swp (i : Nat) : ByteArray := ⟨#[83, 87, 65, 80]⟩ ++ dcs (i + 1)
def lgs (i : Nat) : ByteArray := ⟨#[76, 79, 71]⟩ ++ dcs i
def rowA (l : List UInt8) : Nat → Nat → Option Nat
  | 0, _ => none
  | f + 1, i => if l = bl (dup i) then some (128 + i) else if l = bl (swp i) then some (144 + i) else rowA l f (i + 1)
def rowB (l : List UInt8) : Nat → Nat → Option Nat
  | 0, _ => none
  | f + 1, i => if l = bl (lgs i) then some (160 + i) else rowB l f (i + 1)
def inRow (s : ByteArray) : Option Nat := (rowA (bl s) 16 0).orElse fun _ => rowB (bl s) 5 0
theorem eqs_true {s t : ByteArray} (h : bl s = bl t) : (s.toList == t.toList) = true := by rw [Go.ByteArray.toList_eq, Go.ByteArray.toList_eq]; exact beq_iff_eq.2 h
theorem eqs_false {s t : ByteArray} (h : ¬ bl s = bl t) : (s.toList == t.toList) = false := by rw [Go.ByteArray.toList_eq, Go.ByteArray.toList_eq]; exact beq_eq_false_iff_ne.2 h
set_option maxRecDepth 100000 in
set_option maxHeartbeats 4000000 in
theorem inRow_any (s : ByteArray) (hs : s.size ≤ 2000) (w : World) : Calls Tryd.prog 42 #[.string s] w fun e w' => e = .returned (pr (inRow s)) ∧ w' = w := by
  go_enter Tryd.func42, Tryd.ntmps42
  go_wp2
  go_loopw [7] (fun t7 wr => ∃ i : Nat, i ≤ 16 ∧ t7 = .int .i64 i ∧ Hid (rowA (bl s) (16 - i) i = rowA (bl s) 16 0) ∧ Hid (wr = w)) (fun t7 _ => 16 - (intOf t7).toNat)
  case atStart => exact ⟨0, by omega, rfl, rfl, rfl⟩
  case round =>
    obtain ⟨i, hi, rfl, HA, HW⟩ := hrel
    by_cases hlt : i < 16
    · have hdi : decide ((i : Int) < 16) = true := by simp; omega
      have HIT : Hid (∀ w, Calls Tryd.prog 49 #[.int .i64 ((i : Int) + 1)] w fun e w' => e = .returned (.string (dcs (i + 1))) ∧ w' = w) := fun w => by have h := itoa_any (i + 1) (by omega) w; rw [Int.natCast_add] at h; exact h
      have hsz := dcs_size (i + 1)
      obtain ⟨f, hf⟩ : ∃ f, 16 - i = f + 1 := ⟨15 - i, by omega⟩
      have HF : Hid (f = 16 - (i + 1)) := by show _ = _; omega
      have hA := HA.out
      rw [hf] at hA
      clear hf
      go_wp2_with fail
      refine (HIT.out _).mono ?_
      rintro e w' ⟨rfl, rfl⟩
      by_cases h1 : bl s = bl (dup i)
      · have HR : Hid (inRow s = some (128 + i)) := by show _ = _; unfold inRow; rw [← hA]; simp [rowA, h1]
        have e1 : (s.toList == ((⟨#[68, 85, 80]⟩ : ByteArray) ++ dcs (i + 1)).toList) = true := eqs_true h1
        clear h1 hA
        generalize dcs (i + 1) = dc at *
        go_wp2
        go_ret2
        exact ⟨by rw [HR.out]; simp [pr], HW.out⟩
      · have e1 : (s.toList == ((⟨#[68, 85, 80]⟩ : ByteArray) ++ dcs (i + 1)).toList) = false := eqs_false h1
        by_cases h2 : bl s = bl (swp i)
        · have HR : Hid (inRow s = some (144 + i)) := by show _ = _; unfold inRow; rw [← hA]; simp only [rowA, if_neg h1, if_pos h2]; rfl
          have e2 : (s.toList == ((⟨#[83, 87, 65, 80]⟩ : ByteArray) ++ dcs (i + 1)).toList) = true := eqs_true h2
          clear h1 h2 hA
          generalize dcs (i + 1) = dc at *
          go_wp2
          go_ret2
          exact ⟨by rw [HR.out]; simp [pr], HW.out⟩
        · have e2 : (s.toList == ((⟨#[83, 87, 65, 80]⟩ : ByteArray) ++ dcs (i + 1)).toList) = false := eqs_false h2
          have HA2 : Hid (rowA (bl s) (16 - (i + 1)) (i + 1) = rowA (bl s) 16 0) := by
            show _ = _
            rw [← hA, ← HF.out]
            simp only [rowA, if_neg h1, if_neg h2]
          clear h1 h2 hA
          generalize dcs (i + 1) = dc at *
          go_wp2
          go_roundw
          case rel => exact ⟨i + 1, by omega, by go_num, HA2, HW⟩
          case measure => simp [intOf]; omega
    · obtain rfl : i = 16 := by omega
      have HN : Hid (rowA (bl s) 16 0 = none) := by show _ = _; rw [← HA.out]; rfl
      clear HA
      rw [show ((16 : Nat) : Int) = 16 from rfl]
      go_wp2
      go_loopw [29] (fun t29 wq => ∃ i : Nat, i ≤ 5 ∧ t29 = .int .i64 i ∧ Hid (rowB (bl s) (5 - i) i = rowB (bl s) 5 0) ∧ Hid (wq = w)) (fun t29 _ => 5 - (intOf t29).toNat)
      case atStart => exact ⟨0, by omega, rfl, rfl, HW⟩
      case round =>
        clear HW
        obtain ⟨i, hi, rfl, HA, HW⟩ := hrel
        by_cases hlt : i < 5
        · have hdi : decide ((i : Int) < 5) = true := by simp; omega
          have HIT : Hid (∀ w, Calls Tryd.prog 49 #[.int .i64 (i : Int)] w fun e w' => e = .returned (.string (dcs i)) ∧ w' = w) := fun w => itoa_any i (by omega) w
          have hsz := dcs_size i
          obtain ⟨f, hf⟩ : ∃ f, 5 - i = f + 1 := ⟨4 - i, by omega⟩
          have HF : Hid (f = 5 - (i + 1)) := by show _ = _; omega
          have hA := HA.out
          rw [hf] at hA
          clear hf
          go_wp2_with fail
          refine (HIT.out _).mono ?_
          rintro e w' ⟨rfl, rfl⟩
          by_cases h1 : bl s = bl (lgs i)
          · have HR : Hid (inRow s = some (160 + i)) := by show _ = _; unfold inRow; rw [HN.out, ← hA]; simp [rowB, h1]
            have e1 : (s.toList == ((⟨#[76, 79, 71]⟩ : ByteArray) ++ dcs i).toList) = true := eqs_true h1
            clear h1 hA
            generalize dcs i = dc at *
            go_wp2
            go_ret2
            exact ⟨by rw [HR.out]; simp [pr], HW.out⟩
          · have e1 : (s.toList == ((⟨#[76, 79, 71]⟩ : ByteArray) ++ dcs i).toList) = false := eqs_false h1
            have HA2 : Hid (rowB (bl s) (5 - (i + 1)) (i + 1) = rowB (bl s) 5 0) := by
              show _ = _
              rw [← hA, ← HF.out]
              simp only [rowB, if_neg h1]
            clear h1 hA
            generalize dcs i = dc at *
            go_wp2
            go_roundw
            case rel => exact ⟨i + 1, by omega, by go_num, HA2, HW⟩
            case measure => simp [intOf]; omega
        · obtain rfl : i = 5 := by omega
          have HR : Hid (inRow s = none) := by show _ = _; unfold inRow; rw [HN.out, ← HA.out]; rfl
          go_wp2
          go_ret2
          exact ⟨by rw [HR.out]; rfl, HW.out⟩
end cin
end Go.Proofs.YtohoajjdoihekaaDoor
