/-
  Numbers: comparisons and shifts of words. No program is named here.
-/
import Derived.Test.YtohoajjdoihekaaNum2
set_option linter.unusedVariables false
set_option linter.unusedSimpArgs false
namespace Go.Proofs.Ytohoajjdoihekaa
namespace cin
def ltw (a b : Nat) : Bool := decide (a % M < b % M)
theorem ltw_bw (a b : Nat) : ((bw a b 4 : Int) == 1) = ltw a b := by
  unfold bw ltw M
  rw [pw4]
  split <;> rename_i h
  · rw [decide_eq_true h]; rfl
  · rw [decide_eq_false h]; rfl
/-- b shifted to the left by a -/
def shlw (a b : Nat) : Nat := if a % M < 256 then b * 2 ^ (a % M) else 0
theorem limb_zero (i : Nat) : limb 0 i = 0 := by unfold limb; simp
theorem wv_small (b : Nat) (hb : b < 18446744073709551616) : Value.agg #[.int .u64 (b : Int), .int .u64 0, .int .u64 0, .int .u64 0] = wv b := by
  have e0 : limb b 0 = (b : Int) := by unfold limb; rw [pw0]; omega
  have e1 : limb b 1 = 0 := by unfold limb; rw [pw1]; omega
  have e2 : limb b 2 = 0 := by unfold limb; rw [pw2]; omega
  have e3 : limb b 3 = 0 := by unfold limb; rw [pw3]; omega
  unfold wv
  rw [e0, e1, e2, e3]
theorem shlw_out {a : Nat} (h : ltw a 256 = false) (b : Nat) : shlw a b = 0 := by
  unfold ltw at h
  unfold shlw
  have h2 := of_decide_eq_false h
  rw [if_neg (by unfold M at *; omega)]
theorem shlw_in {a : Nat} (h : ltw a 256 = true) (b : Nat) : ∃ s : Nat, s < 256 ∧ limb a 0 = (s : Int) ∧ shlw a b = b * 2 ^ s := by
  unfold ltw at h
  have h2 := of_decide_eq_true h
  refine ⟨a % M, by unfold M at *; omega, ?_, ?_⟩
  · unfold limb M at *
    rw [pw0]
    omega
  · unfold shlw
    rw [if_pos (by unfold M at *; omega)]
theorem tb_limb (n k j : Nat) : (limbN n k).testBit j = (decide (j < 64) && n.testBit (j + 64 * k)) := by
  unfold limbN
  rw [pw64, Nat.testBit_mod_two_pow, Nat.testBit_div_two_pow]
theorem tb_mul (b s i : Nat) : (b * 2 ^ s).testBit i = (decide (s ≤ i) && b.testBit (i - s)) := by
  rw [Nat.testBit_mul_two_pow]
theorem tb_mod64 (x i : Nat) : (x % 18446744073709551616).testBit i = (decide (i < 64) && x.testBit i) := by
  rw [pw64, Nat.testBit_mod_two_pow]
theorem shl_lo (b s k : Nat) (h : k < s / 64) : limb (b * 2 ^ s) k = 0 := by
  rw [limb_eq]
  have : limbN (b * 2 ^ s) k = 0 := by
    apply Nat.eq_of_testBit_eq; intro j
    rw [tb_limb, tb_mul, Nat.zero_testBit]
    by_cases hj : j < 64
    · simp [hj, show ¬ s ≤ j + 64 * k by omega]
    · simp [hj]
  rw [this]; rfl
theorem shl_eq (b s k : Nat) (h1 : s / 64 ≤ k) (h2 : ¬ s / 64 < k) : limbN b (k - s / 64) * 2 ^ (s % 64) % 18446744073709551616 = limbN (b * 2 ^ s) k := by
  apply Nat.eq_of_testBit_eq; intro j
  rw [tb_mod64, tb_mul, tb_limb, tb_limb, tb_mul]
  by_cases hj : j < 64
  · by_cases hr : s % 64 ≤ j
    · simp [hj, hr, show s ≤ j + 64 * k by omega, show j - s % 64 < 64 by omega, show j - s % 64 + 64 * (k - s / 64) = j + 64 * k - s by omega]
    · simp [hj, hr, show ¬ s ≤ j + 64 * k by omega]
  · simp [hj]
theorem shl_hi (b s k : Nat) (h1 : s / 64 < k) : (limbN b (k - s / 64) * 2 ^ (s % 64) % 18446744073709551616) ||| (limbN b (k - s / 64 - 1) / 2 ^ (64 - s % 64)) = limbN (b * 2 ^ s) k := by
  apply Nat.eq_of_testBit_eq; intro j
  rw [Nat.testBit_or, tb_mod64, tb_mul, tb_limb, Nat.testBit_div_two_pow, tb_limb, tb_limb, tb_mul]
  by_cases hj : j < 64
  · by_cases hr : s % 64 ≤ j
    · simp [hj, hr, show s ≤ j + 64 * k by omega, show j - s % 64 < 64 by omega, show j - s % 64 + 64 * (k - s / 64) = j + 64 * k - s by omega, show ¬ j + (64 - s % 64) < 64 by omega]
    · simp [hj, hr, show s ≤ j + 64 * k by omega, show j + (64 - s % 64) < 64 by omega, show j + (64 - s % 64) + 64 * (k - s / 64 - 1) = j + 64 * k - s by omega]
  · simp [hj, show ¬ j + (64 - s % 64) < 64 by omega]
theorem shr_hi (b s k : Nat) (h1 : s / 64 ≤ k) : (limbN b k / 2 ^ (s % 64)) ||| (limbN b (k + 1) * 2 ^ (64 - s % 64) % 18446744073709551616) = limbN (b / 2 ^ s) (k - s / 64) := by
  apply Nat.eq_of_testBit_eq; intro j
  rw [Nat.testBit_or, tb_mod64, tb_mul, tb_limb, Nat.testBit_div_two_pow, tb_limb, tb_limb, Nat.testBit_div_two_pow]
  by_cases hj : j < 64
  · by_cases hr : j + s % 64 < 64
    · simp [hj, hr, show ¬ 64 - s % 64 ≤ j by omega, show j + s % 64 + 64 * k = j + 64 * (k - s / 64) + s by omega]
    · simp [hj, hr, show 64 - s % 64 ≤ j by omega, show j - (64 - s % 64) < 64 by omega, show j - (64 - s % 64) + 64 * (k + 1) = j + 64 * (k - s / 64) + s by omega]
  · simp [hj, show ¬ j + s % 64 < 64 by omega]
theorem shr_top (b s : Nat) (hb : b < M) (h : s / 64 ≤ 3) : limbN b 3 / 2 ^ (s % 64) = limbN (b / 2 ^ s) (3 - s / 64) := by
  have e := shr_hi b s 3 h
  have z : limbN b (3 + 1) = 0 := by
    unfold limbN M at *
    rw [Nat.div_eq_of_lt (by rw [show 3 + 1 = 4 from rfl, pw4]; exact hb)]
  rw [z, Nat.zero_mul, Nat.zero_mod, Nat.or_zero] at e
  exact e
theorem shr_out (b s k : Nat) (hb : b < M) (hk : 3 - s / 64 < k) : limb (b / 2 ^ s) k = 0 := by
  rw [limb_eq]
  have : limbN (b / 2 ^ s) k = 0 := by
    apply Nat.eq_of_testBit_eq; intro j
    rw [tb_limb, Nat.testBit_div_two_pow, Nat.zero_testBit]
    have h : b.testBit (j + 64 * k + s) = false := by
      apply Nat.testBit_lt_two_pow
      refine Nat.lt_of_lt_of_le hb ?_
      show 2 ^ 256 ≤ _
      exact Nat.pow_le_pow_right (by omega) (by omega)
    rw [h, Bool.and_false]
  rw [this]; rfl
theorem wrap_mul (x e : Nat) : IntKind.u64.wrap ((x : Int) * 2 ^ e) = ((x * 2 ^ e % 18446744073709551616 : Nat) : Int) := by
  rw [IntKind.wrap_u64, Int.natCast_emod, Int.natCast_mul, Int.natCast_pow]
  rfl
theorem div_pow (x e : Nat) : (x : Int) / 2 ^ e = ((x / 2 ^ e : Nat) : Int) := by
  rw [Int.natCast_ediv, Int.natCast_pow]; rfl
theorem shl_eq' (b s k : Nat) (h1 : s / 64 ≤ k) (h2 : ¬ s / 64 < k) : IntKind.u64.wrap (limb b (k - s / 64) * 2 ^ (s % 64)) = limb (b * 2 ^ s) k := by
  rw [limb_eq, limb_eq, wrap_mul, shl_eq b s k h1 h2]
theorem shl_hi' (b s k : Nat) (h1 : s / 64 < k) : bits .or .u64 (IntKind.u64.wrap (limb b (k - s / 64) * 2 ^ (s % 64))) (limb b (k - s / 64 - 1) / 2 ^ (64 - s % 64)) = limb (b * 2 ^ s) k := by
  rw [limb_eq, limb_eq, limb_eq, wrap_mul, div_pow, bits_or_u64_nat _ _ (Nat.mod_lt _ (by omega)) (Nat.lt_of_le_of_lt (Nat.div_le_self _ _) (limbN_lt _ _)), shl_hi b s k h1]
theorem shr_hi' (b s k : Nat) (h1 : s / 64 ≤ k) : bits .or .u64 (limb b k / 2 ^ (s % 64)) (IntKind.u64.wrap (limb b (k + 1) * 2 ^ (64 - s % 64))) = limb (b / 2 ^ s) (k - s / 64) := by
  rw [limb_eq, limb_eq, limb_eq, wrap_mul, div_pow, bits_or_u64_nat _ _ (Nat.lt_of_le_of_lt (Nat.div_le_self _ _) (limbN_lt _ _)) (Nat.mod_lt _ (by omega)), shr_hi b s k h1]
theorem shr_top' (b s k : Nat) (hb : b < M) (h1 : s / 64 ≤ k) (hk : k = 3) : limb b k / 2 ^ (s % 64) = limb (b / 2 ^ s) (k - s / 64) := by
  subst hk
  rw [limb_eq, limb_eq, div_pow, shr_top b s hb h1]
/-- b shifted to the right by a -/
def shrw (a b : Nat) : Nat := if a % M < 256 then b / 2 ^ (a % M) else 0
theorem shrw_out {a : Nat} (h : ltw a 256 = false) (b : Nat) : shrw a b = 0 := by
  unfold ltw at h
  unfold shrw
  have h2 := of_decide_eq_false h
  rw [if_neg (by unfold M at *; omega)]
theorem shrw_in {a : Nat} (h : ltw a 256 = true) (b : Nat) : ∃ s : Nat, s < 256 ∧ limb a 0 = (s : Int) ∧ shrw a b = b / 2 ^ s := by
  unfold ltw at h
  have h2 := of_decide_eq_true h
  refine ⟨a % M, by unfold M at *; omega, ?_, ?_⟩
  · unfold limb M at *
    rw [pw0]
    omega
  · unfold shrw
    rw [if_pos (by unfold M at *; omega)]
end cin
end Go.Proofs.Ytohoajjdoihekaa
