/-
  The walks of the document's answer: words compared, words as small numbers, signs.
-/
import Derived.Test.YtohoajjdoihekaaDoorRc
set_option linter.unusedVariables false
set_option linter.unusedSimpArgs false
namespace Go.Proofs.YtohoajjdoihekaaDoor
open Go.RowKit
namespace cin
set_option maxRecDepth 100000
theorem bw_same (a b k : Nat) (hk : k < 4) (h : limb a k = limb b k) : bw a b (k + 1) = bw a b k := by
  have h1 := sub_bw a b k hk
  have h2 := bw_le a b k
  rw [h] at h1
  by_cases e : bw a b k = 0
  · rw [e] at h1 ⊢
    simp at h1; omega
  · have : bw a b k = 1 := by omega
    rw [this] at h1 ⊢
    rw [if_pos (by omega)] at h1; omega
theorem bw_diff (a b k : Nat) (hk : k < 4) (h : limb a k ≠ limb b k) : (bw a b (k + 1) : Int) = if limb a k < limb b k then 1 else 0 := by
  have h1 := sub_bw a b k hk
  have h2 := bw_le a b k
  rw [← h1]
  by_cases e : limb a k < limb b k
  · rw [if_pos e, if_pos (by omega)]
  · rw [if_neg e, if_neg (by omega)]
theorem bw_up (a b m : Nat) (hm : m ≤ 4) (h : ∀ j, m ≤ j → j < 4 → limb a j = limb b j) : bw a b 4 = bw a b m := by
  have key : ∀ d, d ≤ 4 - m → bw a b (m + d) = bw a b m := by
    intro d
    induction d with
    | zero => intro _; rfl
    | succ d ih => intro hd; rw [← Nat.add_assoc, bw_same a b (m + d) (by omega) (h _ (by omega) (by omega)), ih (by omega)]
  have := key (4 - m) (Nat.le_refl _)
  rwa [show m + (4 - m) = 4 by omega] at this
theorem less_at (a b m : Nat) (hm : m < 4) (h : ∀ j, m + 1 ≤ j → j < 4 → limb a j = limb b j) (hne : limb a m ≠ limb b m) : decide (limb a m < limb b m) = ltw a b := by
  rw [← ltw_bw, bw_up a b (m + 1) (by omega) h, bw_diff a b m hm hne]
  by_cases e : limb a m < limb b m
  · rw [if_pos e, decide_eq_true e]; rfl
  · rw [if_neg e, decide_eq_false e]; rfl
theorem less_not (a b : Nat) (h : ∀ j, 0 ≤ j → j < 4 → limb a j = limb b j) : ltw a b = false := by
  rw [← ltw_bw, bw_up a b 0 (by omega) h]
  have : bw a b 0 = 0 := by unfold bw; simp [Nat.mod_one]
  rw [this]; rfl
set_option maxHeartbeats 1000000 in
theorem rless_any (a b : Nat) (w : World) : Calls Tryd.prog 35 #[wv a, wv b] w fun e w' => e = .returned (.bool (ltw a b)) ∧ Below w.heap.size w w' := by
  go_enter Tryd.func35, Tryd.ntmps35
  go_wp2
  go_loopw [5] (fun t5 wr => ∃ i : Nat, i ≤ 4 ∧ t5 = .int .i64 ((i : Int) - 1) ∧ wr.rowIs w.heap.size 58 4 (u64s (limb a)) ∧ wr.rowIs (w.heap.size + 1) 58 4 (u64s (limb b)) ∧
      Hid (∀ j, i ≤ j → j < 4 → limb a j = limb b j) ∧ Below w.heap.size w wr)
     (fun t5 _ => (intOf t5 + 1).toNat)
  case atStart =>
    exact ⟨4, by omega, rfl, (row_lit4 (limb a) rfl rfl rfl rfl rfl).alloc _, row_lit4 (limb b) (by simp) rfl rfl rfl rfl, fun j h1 h2 => by omega, bal (bal (Below.refl _ _) _) _⟩
  case round =>
    obtain ⟨i, hi, rfl, hra, hrb, hq, hbel⟩ := hrel
    by_cases hlt : i = 0
    · subst hlt
      have E : Hid (ltw a b = false) := less_not a b hq.out
      go_wp2
      go_ret
      exact ⟨by rw [E.out]; rfl, hbel⟩
    · obtain ⟨m, rfl⟩ : ∃ m, i = m + 1 := ⟨i - 1, by omega⟩
      rw [show (((m + 1 : Nat) : Int) - 1) = (m : Int) by omega]
      have ca := hra.cell (i := m) (by omega)
      have cc := hrb.cell (i := m) (by omega)
      simp only [u64s] at ca cc
      by_cases he : limb a m = limb b m
      · rw [← he] at cc
        have HE : Hid (limb a m = limb b m) := he
        clear he
        go_wp2
        go_region
        all_goals go_wp2
        all_goals go_roundw
        case rel => exact ⟨m, by omega, rfl, hra, hrb, fun j h1 h2 => by rcases Nat.lt_or_ge m j with h | h; exact hq.out j h h2; obtain rfl : j = m := by omega
                                                                         exact HE.out, hbel.drew⟩
        case measure => simp [intOf]
      · have hd : (limb a m != limb b m) = true := by simpa using he
        have HL : Hid (decide (limb a m < limb b m) = ltw a b) := less_at a b m (by omega) hq.out he
        clear he
        go_wp2
        go_region
        all_goals go_wp2
        all_goals go_region
        all_goals go_wp2
        all_goals go_ret
        all_goals exact ⟨by rw [← HL.out]; rfl, hbel.drew.drew⟩
theorem isz_num (a : Nat) (h : limb a 0 = 0 ∧ limb a 1 = 0 ∧ limb a 2 = 0 ∧ limb a 3 = 0) : Hid (a % M = 0) := by
  show _ = _
  obtain ⟨h0, h1, h2, h3⟩ := h
  unfold limb at h0 h1 h2 h3
  rw [pw0] at h0; rw [pw1] at h1; rw [pw2] at h2; rw [pw3] at h3
  unfold M
  omega
theorem isn_num (a k : Nat) (hk : k < 4) (h : limb a k ≠ 0) : Hid (a % M ≠ 0) := by
  show _ ≠ _
  unfold limb at h
  unfold M
  rcases k4 hk with rfl | rfl | rfl | rfl
  · rw [pw0] at h; omega
  · rw [pw1] at h; omega
  · rw [pw2] at h; omega
  · rw [pw3] at h; omega
/-- a word as a small number, at most m -/
def fint (a m : Nat) : Nat := if a % M < m then a % M else m
theorem int_lo (a : Nat) (h : limb a 1 = 0 ∧ limb a 2 = 0 ∧ limb a 3 = 0) : limb a 0 = ((a % M : Nat) : Int) := by
  obtain ⟨h1, h2, h3⟩ := h
  unfold limb at *
  rw [pw1] at h1; rw [pw2] at h2; rw [pw3] at h3; rw [pw0]
  unfold M
  omega
theorem int_hi (a m k : Nat) (hm : m < 18446744073709551616) (hk : k < 4) (h0 : 0 < k) (h : limb a k ≠ 0) : Hid (fint a m = m) := by
  show _ = _
  unfold fint
  rw [if_neg]
  unfold limb at h
  unfold M
  rcases k4 hk with rfl | rfl | rfl | rfl
  · omega
  · rw [pw1] at h; omega
  · rw [pw2] at h; omega
  · rw [pw3] at h; omega
end cin
end Go.Proofs.YtohoajjdoihekaaDoor
