/-
  Prefixes and suffixes cut off; digits.
-/
import Derived.Test.YtohoajjdoihekaaDoorTe
set_option linter.unusedVariables false
set_option linter.unusedSimpArgs false
namespace Go.Proofs.YtohoajjdoihekaaDoor
open Go.RowKit
namespace cin
/-- what a rune stands for as a digit; 16: none -/
def dgt (r : Nat) : Nat := if 48 ≤ r ∧ r ≤ 57 then r - 48 else if 97 ≤ r ∧ r ≤ 102 then r - 87 else 16
theorem dgt_le (r : Nat) : dgt r ≤ 16 := by
  unfold dgt
  split
  · omega
  · split <;> omega
set_option maxRecDepth 100000 in
theorem digit_any (r : Nat) (hr : r ≤ 2147483647) (w : World) : Calls Tryd.prog 43 #[.int .i32 (r : Int)] w fun e w' => e = .returned (.int .u64 (dgt r : Int)) ∧ w' = w := by
  rcases (by omega : r < 48 ∨ (48 ≤ r ∧ r ≤ 57) ∨ (57 < r ∧ r < 97) ∨ (97 ≤ r ∧ r ≤ 102) ∨ 102 < r) with h | h | h | h | h
  · have HD : Hid ((dgt r : Int) = 16) := by show _ = _; unfold dgt; (split <;> first | omega | (split <;> omega))
    have d0 : decide (48 ≤ (r : Int)) = false := by simp; omega
    have d1 : decide (97 ≤ (r : Int)) = false := by simp; omega
    go_enter Tryd.func43, Tryd.ntmps43
    go_wp2
    go_ret
    exact ⟨by rw [HD.out]; rfl, rfl⟩
  · have HD : Hid ((dgt r : Int) = (r : Int) - 48) := by show _ = _; unfold dgt; (split <;> first | omega | (split <;> omega))
    have d0 : decide (48 ≤ (r : Int)) = true := by simp; omega
    have d1 : decide ((r : Int) ≤ 57) = true := by simp; omega
    go_enter Tryd.func43, Tryd.ntmps43
    go_wp2
    go_ret
    exact ⟨by rw [HD.out]; rfl, rfl⟩
  · have HD : Hid ((dgt r : Int) = 16) := by show _ = _; unfold dgt; (split <;> first | omega | (split <;> omega))
    have d0 : decide (48 ≤ (r : Int)) = true := by simp; omega
    have d1 : decide ((r : Int) ≤ 57) = false := by simp; omega
    have d2 : decide (97 ≤ (r : Int)) = false := by simp; omega
    go_enter Tryd.func43, Tryd.ntmps43
    go_wp2
    go_ret
    exact ⟨by rw [HD.out]; rfl, rfl⟩
  · have HD : Hid ((dgt r : Int) = (r : Int) - 97 + 10) := by show _ = _; unfold dgt; (split <;> first | omega | (split <;> omega))
    have d0 : decide (48 ≤ (r : Int)) = true := by simp; omega
    have d1 : decide ((r : Int) ≤ 57) = false := by simp; omega
    have d2 : decide (97 ≤ (r : Int)) = true := by simp; omega
    have d3 : decide ((r : Int) ≤ 102) = true := by simp; omega
    go_enter Tryd.func43, Tryd.ntmps43
    go_wp2
    go_ret
    exact ⟨by rw [HD.out]; rfl, rfl⟩
  · have HD : Hid ((dgt r : Int) = 16) := by show _ = _; unfold dgt; (split <;> first | omega | (split <;> omega))
    have d0 : decide (48 ≤ (r : Int)) = true := by simp; omega
    have d1 : decide ((r : Int) ≤ 57) = false := by simp; omega
    have d2 : decide (97 ≤ (r : Int)) = true := by simp; omega
    have d3 : decide ((r : Int) ≤ 102) = false := by simp; omega
    go_enter Tryd.func43, Tryd.ntmps43
    go_wp2
    go_ret
    exact ⟨by rw [HD.out]; rfl, rfl⟩
/-- without a prefix, if it is there -/
def cutP (t pre : ByteArray) : ByteArray := if pf t pre then t.extract pre.size t.size else t
set_option maxHeartbeats 1000000 in
theorem cutPrefix_any (t pre : ByteArray) (ht : t.size ≤ 2000) (hp : pre.size ≤ 2000) (w : World) : Calls Tryd.prog 27 #[.string t, .string pre] w fun e w' => e = .returned (.tuple #[.string (cutP t pre), .bool (pf t pre)]) ∧ w' = w := by
  by_cases h : pre.size ≤ t.size
  · have HP : pf t pre = ((t.extract 0 pre.size).toList == pre.toList) := by unfold pf; rw [decide_eq_true h, Bool.true_and]
    cases hq : ((t.extract 0 pre.size).toList == pre.toList)
    · rw [hq] at HP
      have HC : Hid (cutP t pre = t) := by show _ = _; unfold cutP; rw [HP]; rfl
      have HQ : Hid (pf t pre = false) := HP
      clear HP
      go_enter Tryd.func27, Tryd.ntmps27
      go_wp2
      go_ret2
      exact ⟨by rw [HC.out, HQ.out]; rfl, rfl⟩
    · rw [hq] at HP
      have HC : Hid (cutP t pre = t.extract pre.size t.size) := by show _ = _; unfold cutP; rw [HP]; rfl
      have HQ : Hid (pf t pre = true) := HP
      clear HP
      go_enter Tryd.func27, Tryd.ntmps27
      go_wp2
      go_ret2
      exact ⟨by rw [HC.out, HQ.out]; rfl, rfl⟩
  · have HP : pf t pre = false := by unfold pf; rw [decide_eq_false h, Bool.false_and]
    have HC : Hid (cutP t pre = t) := by show _ = _; unfold cutP; rw [HP]; rfl
    have HQ : Hid (pf t pre = false) := HP
    clear HP
    go_enter Tryd.func27, Tryd.ntmps27
    go_wp2
    go_ret2
    exact ⟨by rw [HC.out, HQ.out]; rfl, rfl⟩
/-- has it this suffix? -/
def sf (t suf : ByteArray) : Bool := decide (suf.size ≤ t.size) && ((t.extract (t.size - suf.size) t.size).toList == suf.toList)
def cutS (t suf : ByteArray) : ByteArray := if sf t suf then t.extract 0 (t.size - suf.size) else t
set_option maxHeartbeats 1000000 in
theorem cutSuffix_any (t suf : ByteArray) (ht : t.size ≤ 2000) (hp : suf.size ≤ 2000) (w : World) : Calls Tryd.prog 25 #[.string t, .string suf] w fun e w' => e = .returned (.tuple #[.string (cutS t suf), .bool (sf t suf)]) ∧ w' = w := by
  by_cases h : suf.size ≤ t.size
  · obtain ⟨n, hn⟩ : ∃ n : Nat, (t.size : Int) - (suf.size : Int) = (n : Int) := ⟨t.size - suf.size, by omega⟩
    have hnn : t.size - suf.size = n := by omega
    have hnl : n ≤ t.size := by omega
    have HP : sf t suf = ((t.extract n t.size).toList == suf.toList) := by unfold sf; rw [decide_eq_true h, Bool.true_and, hnn]
    have HK : cutS t suf = if sf t suf then t.extract 0 n else t := by unfold cutS; rw [hnn]
    clear hnn
    cases hq : ((t.extract n t.size).toList == suf.toList)
    · rw [hq] at HP
      rw [HP] at HK
      have HC : Hid (cutS t suf = t) := HK
      have HQ : Hid (sf t suf = false) := HP
      clear HP HK
      go_enter Tryd.func25, Tryd.ntmps25
      go_wp2
      go_ret2
      exact ⟨by rw [HC.out, HQ.out]; rfl, rfl⟩
    · rw [hq] at HP
      rw [HP] at HK
      have HC : Hid (cutS t suf = t.extract 0 n) := HK
      have HQ : Hid (sf t suf = true) := HP
      clear HP HK
      go_enter Tryd.func25, Tryd.ntmps25
      go_wp2
      go_ret2
      exact ⟨by rw [HC.out, HQ.out]; rfl, rfl⟩
  · have HP : sf t suf = false := by unfold sf; rw [decide_eq_false h, Bool.false_and]
    have HC : Hid (cutS t suf = t) := by show _ = _; unfold cutS; rw [HP]; rfl
    have HQ : Hid (sf t suf = false) := HP
    clear HP
    go_enter Tryd.func25, Tryd.ntmps25
    go_wp2
    go_ret2
    exact ⟨by rw [HC.out, HQ.out]; rfl, rfl⟩
end cin
end Go.Proofs.YtohoajjdoihekaaDoor
