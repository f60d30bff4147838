/-
  Bytes without the noughts ahead, the document's way.
-/
import Derived.Test.YtohoajjdoihekaaDoorTr
set_option linter.unusedVariables false
set_option linter.unusedSimpArgs false
namespace Go.Proofs.YtohoajjdoihekaaDoor
open Go.RowKit
namespace cin
def lst (s : ByteArray) : ByteArray := ⟨((bl s).dropWhile (· == 0)).toArray⟩
theorem bl_lst (s : ByteArray) : bl (lst s) = (bl s).dropWhile (· == 0) := rfl
theorem byt0 {s : ByteArray} (h : 0 < s.size) : ∃ (c : UInt8) (r : List UInt8), bl s = c :: r ∧ c.toNat = byt s 0 := by
  match hm : bl s with
  | [] => have : (bl s).length = s.size := rfl; rw [hm] at this; simp at this; omega
  | c :: r => exact ⟨c, r, rfl, by rw [byt_bl, hm]; rfl⟩
theorem lst_end {s : ByteArray} (h : ¬ 0 < s.size) : lst s = s := by
  apply bl_inj
  rw [bl_lst]
  match hm : bl s with
  | [] => rfl
  | c :: r => have : (bl s).length = s.size := rfl; rw [hm] at this; simp at this; omega
theorem lst_stop {s : ByteArray} (h : 0 < s.size) (h0 : byt s 0 ≠ 0) : lst s = s := by
  obtain ⟨c, r, e, hc⟩ := byt0 h
  apply bl_inj
  rw [bl_lst, e]
  have : (c == 0) = false := by
    rw [beq_eq_false_iff_ne]
    rintro rfl
    exact h0 hc.symm
  rw [List.dropWhile_cons, this]
  rfl
theorem lst_go {s : ByteArray} (h : 0 < s.size) (h0 : byt s 0 = 0) : lst (s.extract 1 s.size) = lst s := by
  obtain ⟨c, r, e, hc⟩ := byt0 h
  have hl : (bl s).length = s.size := rfl
  apply bl_inj
  rw [bl_lst, bl_lst, bl_sub, ← hl, e]
  have : (c == 0) = true := by
    rw [beq_iff_eq]
    exact UInt8.toNat_inj.1 (by rw [hc, h0]; rfl)
  rw [List.dropWhile_cons, this]
  show List.dropWhile _ (List.take _ r) = _
  rw [List.take_of_length_le (by simp)]
  rfl
def strSize : Value → Nat
  | .string t => t.size
  | _ => 0
set_option maxRecDepth 100000 in
theorem least_any (s : ByteArray) (hs : s.size ≤ 2000) (w : World) : Calls Tryd.prog 20 #[.string s] w fun e w' => e = .returned (.string (lst s)) ∧ w' = w := by
  go_enter Tryd.func20, Tryd.ntmps20
  go_wp2
  go_loopw [0] (fun t0 wr => ∃ t : ByteArray, t0 = .string t ∧ t.size ≤ 2000 ∧ Hid (lst t = lst s) ∧ Hid (wr = w)) (fun t0 _ => strSize t0)
  case atStart => exact ⟨s, rfl, hs, rfl, rfl⟩
  case round =>
    obtain ⟨t, rfl, ht, HL, HW⟩ := hrel
    by_cases hp : 0 < t.size
    · have hx := byt_at t 0 hp
      by_cases h0 : byt t 0 = 0
      · have HG : Hid (lst (t.extract 1 t.size) = lst s) := (lst_go hp h0).trans HL.out
        have hsz : (t.extract 1 t.size).size = t.size - 1 := by rw [ByteArray.size_extract]; omega
        rw [h0] at hx
        have h1t : 1 ≤ t.size := hp
        go_wp2
        go_roundw
        case rel => exact ⟨t.extract 1 t.size, rfl, by omega, HG, HW⟩
        case measure => simp only [strSize]; omega
      · have HR : Hid (lst s = t) := HL.out.symm.trans (lst_stop hp h0)
        have hd : ((byt t 0 : Int) == 0) = false := by simp; omega
        go_wp2
        go_ret
        exact ⟨by rw [HR.out]; rfl, HW.out⟩
    · have HR : Hid (lst s = t) := HL.out.symm.trans (lst_end hp)
      go_wp2
      go_ret
      exact ⟨by rw [HR.out]; rfl, HW.out⟩
end cin
end Go.Proofs.YtohoajjdoihekaaDoor
