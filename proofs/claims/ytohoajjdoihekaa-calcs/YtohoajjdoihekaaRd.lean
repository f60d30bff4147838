/-
  The walks of the document's answer: words compared, words as small numbers, signs.
-/
import Derived.Test.YtohoajjdoihekaaRc
set_option linter.unusedVariables false
set_option linter.unusedSimpArgs false
namespace Go.Proofs.Ytohoajjdoihekaa
open Go.RowKit
namespace cin
theorem bw_same (a b k : Nat) (hk : k < 4) (h : limb a k = limb b k) : bw a b (k + 1) = bw a b k := by
  have h1 := sub_bw a b k hk
  have h2 := bw_le a b k
  rw [h] at h1
  by_cases e : bw a b k = 0
  · rw [e] at h1 ⊢
    simp at h1; omega
  · have : bw a b k = 1 := by omega
    rw [this] at h1 ⊢
    rw [if_pos (by omega)] at h1; omega
theorem bw_diff (a b k : Nat) (hk : k < 4) (h : limb a k ≠ limb b k) : (bw a b (k + 1) : Int) = if limb a k < limb b k then 1 else 0 := by
  have h1 := sub_bw a b k hk
  have h2 := bw_le a b k
  rw [← h1]
  by_cases e : limb a k < limb b k
  · rw [if_pos e, if_pos (by omega)]
  · rw [if_neg e, if_neg (by omega)]
theorem bw_up (a b m : Nat) (hm : m ≤ 4) (h : ∀ j, m ≤ j → j < 4 → limb a j = limb b j) : bw a b 4 = bw a b m := by
  have key : ∀ d, d ≤ 4 - m → bw a b (m + d) = bw a b m := by
    intro d
    induction d with
    | zero => intro _; rfl
    | succ d ih => intro hd; rw [← Nat.add_assoc, bw_same a b (m + d) (by omega) (h _ (by omega) (by omega)), ih (by omega)]
  have := key (4 - m) (Nat.le_refl _)
  rwa [show m + (4 - m) = 4 by omega] at this
theorem less_at (a b m : Nat) (hm : m < 4) (h : ∀ j, m + 1 ≤ j → j < 4 → limb a j = limb b j) (hne : limb a m ≠ limb b m) : decide (limb a m < limb b m) = ltw a b := by
  rw [← ltw_bw, bw_up a b (m + 1) (by omega) h, bw_diff a b m hm hne]
  by_cases e : limb a m < limb b m
  · rw [if_pos e, decide_eq_true e]; rfl
  · rw [if_neg e, decide_eq_false e]; rfl
theorem less_not (a b : Nat) (h : ∀ j, 0 ≤ j → j < 4 → limb a j = limb b j) : ltw a b = false := by
  rw [← ltw_bw, bw_up a b 0 (by omega) h]
  have : bw a b 0 = 0 := by unfold bw; simp [Nat.mod_one]
  rw [this]; rfl
set_option maxHeartbeats 1000000 in
theorem rless_any (a b : Nat) (w : World) : Calls Try.prog 24 #[wv a, wv b] w fun e w' => e = .returned (.bool (ltw a b)) ∧ Below w.heap.size w w' := by
  go_enter Try.func24, Try.ntmps24
  go_wp2
  go_loopw [5] (fun t5 wr => ∃ i : Nat, i ≤ 4 ∧ t5 = .int .i64 ((i : Int) - 1) ∧ wr.rowIs w.heap.size 24 4 (u64s (limb a)) ∧ wr.rowIs (w.heap.size + 1) 24 4 (u64s (limb b)) ∧
      Hid (∀ j, i ≤ j → j < 4 → limb a j = limb b j) ∧ Below w.heap.size w wr)
     (fun t5 _ => (intOf t5 + 1).toNat)
  case atStart =>
    exact ⟨4, by omega, rfl, (row_lit4 (limb a) rfl rfl rfl rfl rfl).alloc _, row_lit4 (limb b) (by simp) rfl rfl rfl rfl, fun j h1 h2 => by omega, bal (bal (Below.refl _ _) _) _⟩
  case round =>
    obtain ⟨i, hi, rfl, hra, hrb, hq, hbel⟩ := hrel
    by_cases hlt : i = 0
    · subst hlt
      have E : Hid (ltw a b = false) := less_not a b hq.out
      go_wp2
      go_ret
      exact ⟨by rw [E.out]; rfl, hbel⟩
    · obtain ⟨m, rfl⟩ : ∃ m, i = m + 1 := ⟨i - 1, by omega⟩
      rw [show (((m + 1 : Nat) : Int) - 1) = (m : Int) by omega]
      have ca := hra.cell (i := m) (by omega)
      have cc := hrb.cell (i := m) (by omega)
      simp only [u64s] at ca cc
      by_cases he : limb a m = limb b m
      · rw [← he] at cc
        have HE : Hid (limb a m = limb b m) := he
        clear he
        go_wp2
        go_region
        all_goals go_wp2
        all_goals go_roundw
        case rel => exact ⟨m, by omega, rfl, hra, hrb, fun j h1 h2 => by rcases Nat.lt_or_ge m j with h | h; exact hq.out j h h2; obtain rfl : j = m := by omega
                                                                         exact HE.out, hbel.drew⟩
        case measure => simp [intOf]
      · have hd : (limb a m != limb b m) = true := by simpa using he
        have HL : Hid (decide (limb a m < limb b m) = ltw a b) := less_at a b m (by omega) hq.out he
        clear he
        go_wp2
        go_region
        all_goals go_wp2
        all_goals go_region
        all_goals go_wp2
        all_goals go_ret
        all_goals exact ⟨by rw [← HL.out]; rfl, hbel.drew.drew⟩
theorem rtruth_any (h : Bool) (w : World) : Calls Try.prog 23 #[.bool h] w (Ret w (ftruth h)) := by
  have hz : ∀ w : World, (w.alloc (.cells #[.int .u64 0, .int .u64 0, .int .u64 0, .int .u64 0] 24)).rowIs w.heap.size 24 4 (u64s fun _ => 0) := fun w => row_lit4 (fun _ => 0) rfl rfl rfl rfl rfl
  have hrz := hz w
  have hbel := bal (Below.refl _ w) (.cells #[.int .u64 0, .int .u64 0, .int .u64 0, .int .u64 0] 24)
  clear hz
  cases h
  · go_enter Try.func23, Try.ntmps23
    go_wp2_with fail
    refine (rsmall_any 0 (by omega) _).mono ?_
    rintro e w1 ⟨r, HR, rfl, hb⟩
    replace hrz := row_below hrz hb
    replace hbel := bcall hbel hb
    clear hb
    obtain ⟨x0, x1, x2, x3⟩ := row_cells4 hrz
    have fz := hrz.frozen
    go_wp2
    obtain ⟨q0, q1, q2, q3⟩ := row_cells4 (row_put4 hrz (limb r) rfl rfl rfl rfl)
    refine bodyPost_ret (v := wv r) (by simp [results, Try.results23, go_sem, q0, q1, q2, q3]) rfl (ret_mk (by rw [HR.out]; rfl) ?_)
    exact below_put4 hbel (by omega) _ _ _ _
  · go_enter Try.func23, Try.ntmps23
    go_wp2_with fail
    refine (rsmall_any 1 (by omega) _).mono ?_
    rintro e w1 ⟨r, HR, rfl, hb⟩
    replace hrz := row_below hrz hb
    replace hbel := bcall hbel hb
    clear hb
    obtain ⟨x0, x1, x2, x3⟩ := row_cells4 hrz
    have fz := hrz.frozen
    go_wp2
    obtain ⟨q0, q1, q2, q3⟩ := row_cells4 (row_put4 hrz (limb r) rfl rfl rfl rfl)
    refine bodyPost_ret (v := wv r) (by simp [results, Try.results23, go_sem, q0, q1, q2, q3]) rfl (ret_mk (by rw [HR.out]; rfl) ?_)
    exact below_put4 hbel (by omega) _ _ _ _
theorem rminus_any (a : Nat) (w : World) : Calls Try.prog 53 #[wv a] w fun e w' => e = .returned (.bool (neg a)) ∧ Below w.heap.size w w' := by
  have h1 := limb_lo a 3
  have h2 := limb_hi a 3
  have HN : Hid ((decide (9223372036854775808 ≤ limb a 3)) = neg a) := by show _ = _; unfold limb neg M; rw [pw3, Bool.eq_iff_iff]; simp only [decide_eq_true_eq]; omega
  go_enter Try.func53, Try.ntmps53
  go_wp2
  go_ret
  exact ⟨by rw [← HN.out]; rfl, bal (Below.refl _ _) _⟩
theorem rsize_any (a : Nat) (w : World) : Calls Try.prog 52 #[wv a] w (Ret w (fmag (a % M))) := by
  have hs := S1.start w a
  go_enter Try.func52, Try.ntmps52
  go_wp2_with fail
  refine (rminus_any a _).mono ?_
  rintro e w1 ⟨rfl, hb⟩
  replace hs := hs.call hb
  clear hb
  have hra := hs.ra
  have hrz := hs.rz
  have hbel := hs.be
  obtain ⟨x0, x1, x2, x3⟩ := row_cells4 hrz
  have fz := hrz.frozen
  obtain ⟨y0, y1, y2, y3⟩ := row_cells4 hra
  cases hn : neg a
  · have HN : Hid (neg a = false) := hn
    go_wp2
    obtain ⟨q0, q1, q2, q3⟩ := row_cells4 (row_put4 hrz (limb a) rfl rfl rfl rfl)
    refine bodyPost_ret (v := wv a) (by simp [results, Try.results52, go_sem, q0, q1, q2, q3]) rfl (ret_mk (by unfold fmag; rw [neg_mod, HN.out, if_neg (by decide), Nat.mod_mod]) ?_)
    exact below_put4 hbel (by omega) _ _ _ _
  · have HN : Hid (neg a = true) := hn
    go_wp2_with fail
    refine (rneg_any a _).mono ?_
    rintro e w2 ⟨s, HS, rfl, hb⟩
    replace hrz := row_below hrz hb
    replace hbel := bcall hbel hb
    clear x0 x1 x2 x3 fz hb hs hra y0 y1 y2 y3
    obtain ⟨x0, x1, x2, x3⟩ := row_cells4 hrz
    have fz := hrz.frozen
    go_wp2
    obtain ⟨q0, q1, q2, q3⟩ := row_cells4 (row_put4 hrz (limb s) rfl rfl rfl rfl)
    refine bodyPost_ret (v := wv s) (by simp [results, Try.results52, go_sem, q0, q1, q2, q3]) rfl (ret_mk (by rw [HS.out]; unfold fmag; rw [neg_mod, HN.out, if_pos rfl]) ?_)
    exact below_put4 hbel (by omega) _ _ _ _
theorem isz_num (a : Nat) (h : limb a 0 = 0 ∧ limb a 1 = 0 ∧ limb a 2 = 0 ∧ limb a 3 = 0) : Hid (a % M = 0) := by
  show _ = _
  obtain ⟨h0, h1, h2, h3⟩ := h
  unfold limb at h0 h1 h2 h3
  rw [pw0] at h0; rw [pw1] at h1; rw [pw2] at h2; rw [pw3] at h3
  unfold M
  omega
theorem isn_num (a k : Nat) (hk : k < 4) (h : limb a k ≠ 0) : Hid (a % M ≠ 0) := by
  show _ ≠ _
  unfold limb at h
  unfold M
  rcases k4 hk with rfl | rfl | rfl | rfl
  · rw [pw0] at h; omega
  · rw [pw1] at h; omega
  · rw [pw2] at h; omega
  · rw [pw3] at h; omega
set_option maxHeartbeats 1000000 in
theorem risz_any (a : Nat) (w : World) : Calls Try.prog 25 #[wv a] w fun e w' => e = .returned (.bool (decide (a % M = 0))) ∧ Below w.heap.size w w' := by
  by_cases h0 : limb a 0 = 0
  · by_cases h1 : limb a 1 = 0
    · by_cases h2 : limb a 2 = 0
      · by_cases h3 : limb a 3 = 0
        · have H := isz_num a ⟨h0, h1, h2, h3⟩
          unfold wv
          rw [h0, h1, h2, h3]
          go_enter Try.func25, Try.ntmps25
          go_wp2
          go_ret
          exact ⟨by rw [decide_eq_true H.out]; rfl, bal (Below.refl _ _) _⟩
        · have H := isn_num a 3 (by omega) h3
          have hd : (limb a 3 == 0) = false := by simpa using h3
          unfold wv
          rw [h0, h1, h2]
          go_enter Try.func25, Try.ntmps25
          go_wp2
          go_ret
          exact ⟨by rw [decide_eq_false H.out]; rfl, bal (Below.refl _ _) _⟩
      · have H := isn_num a 2 (by omega) h2
        have hd : (limb a 2 == 0) = false := by simpa using h2
        unfold wv
        rw [h0, h1]
        go_enter Try.func25, Try.ntmps25
        go_wp2
        go_ret
        exact ⟨by rw [decide_eq_false H.out]; rfl, bal (Below.refl _ _) _⟩
    · have H := isn_num a 1 (by omega) h1
      have hd : (limb a 1 == 0) = false := by simpa using h1
      unfold wv
      rw [h0]
      go_enter Try.func25, Try.ntmps25
      go_wp2
      go_ret
      exact ⟨by rw [decide_eq_false H.out]; rfl, bal (Below.refl _ _) _⟩
  · have H := isn_num a 0 (by omega) h0
    have hd : (limb a 0 == 0) = false := by simpa using h0
    unfold wv
    go_enter Try.func25, Try.ntmps25
    go_wp2
    go_ret
    exact ⟨by rw [decide_eq_false H.out]; rfl, bal (Below.refl _ _) _⟩
/-- a word as a small number, at most m -/
def fint (a m : Nat) : Nat := if a % M < m then a % M else m
theorem int_lo (a : Nat) (h : limb a 1 = 0 ∧ limb a 2 = 0 ∧ limb a 3 = 0) : limb a 0 = ((a % M : Nat) : Int) := by
  obtain ⟨h1, h2, h3⟩ := h
  unfold limb at *
  rw [pw1] at h1; rw [pw2] at h2; rw [pw3] at h3; rw [pw0]
  unfold M
  omega
theorem int_hi (a m k : Nat) (hm : m < 18446744073709551616) (hk : k < 4) (h0 : 0 < k) (h : limb a k ≠ 0) : Hid (fint a m = m) := by
  show _ = _
  unfold fint
  rw [if_neg]
  unfold limb at h
  unfold M
  rcases k4 hk with rfl | rfl | rfl | rfl
  · omega
  · rw [pw1] at h; omega
  · rw [pw2] at h; omega
  · rw [pw3] at h; omega
set_option maxRecDepth 100000 in
set_option maxHeartbeats 1000000 in
theorem rint_any (a m : Nat) (hm : m < 1000000) (w : World) : Calls Try.prog 21 #[wv a, .int .i64 (m : Int)] w fun e w' => e = .returned (.int .i64 (fint a m : Int)) ∧ Below w.heap.size w w' := by
  by_cases h1 : limb a 1 = 0
  · by_cases h2 : limb a 2 = 0
    · by_cases h3 : limb a 3 = 0
      · have h0 := int_lo a ⟨h1, h2, h3⟩
        unfold wv
        rw [h0, h1, h2, h3]
        have hh : a % M < 18446744073709551616 := by have := limb_hi a 0; rw [h0] at this; omega
        have HF : Hid (fint a m = if a % M < m then a % M else m) := rfl
        have HG : Hid (a % M < 18446744073709551616) := hh
        clear h0 hh
        by_cases hlt : a % M < m
        · rw [if_pos hlt] at HF
          generalize a % M = r at *
          have hd : decide ((m : Int) ≤ (r : Int)) = false := by simp; omega
          go_enter Try.func21, Try.ntmps21
          go_wp2
          go_ret
          exact ⟨by rw [HF.out]; rfl, bal (Below.refl _ _) _⟩
        · rw [if_neg hlt] at HF
          generalize a % M = r at *
          have hd : decide ((m : Int) ≤ (r : Int)) = true := by simp; omega
          go_enter Try.func21, Try.ntmps21
          go_wp2
          go_ret
          exact ⟨by rw [HF.out]; rfl, bal (Below.refl _ _) _⟩
      · have H := int_hi a m 3 (by omega) (by omega) (by omega) h3
        have hd : (limb a 3 == 0) = false := by simpa using h3
        unfold wv
        rw [h1, h2]
        go_enter Try.func21, Try.ntmps21
        go_wp2
        go_ret
        exact ⟨by rw [H.out]; rfl, bal (Below.refl _ _) _⟩
    · have H := int_hi a m 2 (by omega) (by omega) (by omega) h2
      have hd : (limb a 2 == 0) = false := by simpa using h2
      unfold wv
      rw [h1]
      go_enter Try.func21, Try.ntmps21
      go_wp2
      go_ret
      exact ⟨by rw [H.out]; rfl, bal (Below.refl _ _) _⟩
  · have H := int_hi a m 1 (by omega) (by omega) (by omega) h1
    have hd : (limb a 1 == 0) = false := by simpa using h1
    unfold wv
    go_enter Try.func21, Try.ntmps21
    go_wp2
    go_ret
    exact ⟨by rw [H.out]; rfl, bal (Below.refl _ _) _⟩
end cin
end Go.Proofs.Ytohoajjdoihekaa
