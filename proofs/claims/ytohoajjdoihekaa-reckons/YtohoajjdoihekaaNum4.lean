/-
  Numbers: long division, bit by bit. No program is named here.
-/
import Derived.Test.YtohoajjdoihekaaNum3
set_option linter.unusedVariables false
set_option linter.unusedSimpArgs false
namespace Go.Proofs.Ytohoajjdoihekaa
namespace cin
def Qk (a b k : Nat) : Nat := a / 2 ^ k / b * 2 ^ k
def Rk (a b k : Nat) : Nat := a / 2 ^ k % b
/-- the i-th bit of a -/
def bitN (a i : Nat) : Nat := a / 2 ^ i % 2
/-- twice the rest, and the next bit -/
def dk (a b i : Nat) : Nat := 2 * Rk a b (i + 1) + bitN a i
theorem bitN_le (a i : Nat) : bitN a i ≤ 1 := by unfold bitN; omega
theorem half_step (a i : Nat) : a / 2 ^ i = 2 * (a / 2 ^ (i + 1)) + bitN a i := by
  unfold bitN
  rw [Nat.pow_succ, ← Nat.div_div_eq_div_mul]
  omega
theorem Rk_lt (a b k : Nat) (_hb : b ≠ 0) : Rk a b k < b := Nat.mod_lt _ (by omega)
theorem div_lo (a b i : Nat) (hb : b ≠ 0) (h : dk a b i < b) : Rk a b i = dk a b i ∧ Qk a b i = Qk a b (i + 1) := by
  unfold Rk Qk dk at *
  unfold Rk at *
  rw [half_step a i]
  generalize hn : a / 2 ^ (i + 1) = n at *
  have e : 2 * n + bitN a i = b * (2 * (n / b)) + (2 * (n % b) + bitN a i) := by
    have := Nat.div_add_mod n b
    rw [Nat.mul_left_comm]
    omega
  rw [e, Nat.mul_add_mod, Nat.mod_eq_of_lt h]
  refine ⟨rfl, ?_⟩
  rw [Nat.mul_add_div (by omega), Nat.div_eq_of_lt h, Nat.pow_succ, Nat.add_zero, Nat.mul_comm 2, Nat.mul_assoc, Nat.mul_comm 2]
theorem div_hi (a b i : Nat) (hb : b ≠ 0) (h : ¬ dk a b i < b) : Rk a b i = dk a b i - b ∧ Qk a b i = Qk a b (i + 1) + 2 ^ i := by
  have hl := Rk_lt a b (i + 1) hb
  have hbit := bitN_le a i
  unfold Rk Qk dk at *
  unfold Rk at *
  rw [half_step a i]
  generalize hn : a / 2 ^ (i + 1) = n at *
  have e : 2 * n + bitN a i = b * (2 * (n / b) + 1) + (2 * (n % b) + bitN a i - b) := by
    have := Nat.div_add_mod n b
    rw [Nat.mul_add, Nat.mul_left_comm]
    omega
  have h2 : 2 * (n % b) + bitN a i - b < b := by omega
  rw [e, Nat.mul_add_mod, Nat.mod_eq_of_lt h2]
  refine ⟨rfl, ?_⟩
  rw [Nat.mul_add_div (by omega), Nat.div_eq_of_lt h2, Nat.pow_succ, Nat.add_zero, Nat.add_mul, Nat.one_mul, Nat.mul_comm 2, Nat.mul_assoc, Nat.mul_comm 2]
theorem even_or_one (x : Nat) : 2 * x ||| 1 = 2 * x + 1 := by
  have := Nat.two_pow_add_eq_or_of_lt (i := 1) (b := 1) (by omega) x
  simpa using this.symm
/-- the lowest limb takes the bit up -/
theorem twice0 (R bit : Nat) (h : bit ≤ 1) : bits .or .u64 (limb (R + R) 0) (bit : Int) = limb (2 * R + bit) 0 := by
  rw [limb_eq, limb_eq, bits_or_u64_nat _ _ (limbN_lt _ _) (by omega)]
  congr 1
  unfold limbN
  rw [pw0, Nat.div_one, Nat.div_one]
  have e : (R + R) % 18446744073709551616 = 2 * (R % 9223372036854775808) := by omega
  rw [e]
  have hb : bit = 0 ∨ bit = 1 := by omega
  rcases hb with rfl | rfl
  · rw [Nat.or_zero]; omega
  · rw [even_or_one]; omega
theorem twice_j (R bit j : Nat) (h : bit ≤ 1) (hj : j < 4) (h0 : j ≠ 0) : limb (R + R) j = limb (2 * R + bit) j := by
  unfold limb
  rcases k4 hj with rfl | rfl | rfl | rfl
  · omega
  all_goals (simp only [pw1, pw2, pw3]; omega)
theorem over_below (R b bit : Nat) (h : bit ≤ 1) (hR : R < b) (hb : b < M) :
    ((cy R R 4 : Int) == 0 && (bw (2 * R + bit) b 4 : Int) == 1) = decide (2 * R + bit < b) := by
  unfold cy bw M at *
  rw [pw4]
  rw [Bool.eq_iff_iff]
  simp only [Bool.and_eq_true, beq_iff_eq, decide_eq_true_eq]
  split <;> omega
theorem cy_01 (R : Nat) : ((cy R R 4 : Int) == 0) = decide (cy R R 4 = 0) := by
  rw [Bool.eq_iff_iff]; simp
theorem sub_limbs (d b j : Nat) (hb : b < M) (h : ¬ d < b) (hj : j < 4) : limb (subw d b) j = limb (d - b) j := by
  unfold limb subw M at *
  rcases k4 hj with rfl | rfl | rfl | rfl <;> simp only [pw0, pw1, pw2, pw3] <;> omega
/-- a bit more in the quotient -/
theorem q_limb (Q i j : Nat) (hq : Q % 2 ^ (i + 1) = 0) : limbN (Q + 2 ^ i) j = if j = i / 64 then limbN Q j ||| 2 ^ (i % 64) else limbN Q j := by
  have e : Q + 2 ^ i = Q ||| 2 ^ i := by
    obtain ⟨c, hc⟩ := Nat.dvd_of_mod_eq_zero hq
    rw [hc]
    exact Nat.two_pow_add_eq_or_of_lt (Nat.pow_lt_pow_right (by omega) (by omega)) c
  rw [e]
  apply Nat.eq_of_testBit_eq; intro t
  rw [tb_limb, Nat.testBit_or, Nat.testBit_two_pow]
  split
  · rename_i hj
    rw [Nat.testBit_or, tb_limb, Nat.testBit_two_pow]
    by_cases ht : t < 64
    · simp only [ht, decide_true, Bool.true_and]
      congr 1
      rw [Bool.eq_iff_iff]
      simp only [decide_eq_true_eq]
      omega
    · have : ¬ i % 64 = t := by omega
      simp [ht, this]
  · rename_i hj
    rw [tb_limb]
    by_cases ht : t < 64
    · have : ¬ i = t + 64 * j := by omega
      simp [ht, this]
    · simp [ht]
theorem Qk_dvd (a b k : Nat) : Qk a b k % 2 ^ k = 0 := by unfold Qk; exact Nat.mul_mod_left _ _
theorem Qk_zero (a b : Nat) : Qk a b 0 = a / b := by unfold Qk; simp
theorem Rk_zero (a b : Nat) : Rk a b 0 = a % b := by unfold Rk; simp
theorem Qk_top (a b L : Nat) (h : a < 2 ^ L) : Qk a b L = 0 := by unfold Qk; rw [Nat.div_eq_of_lt h, Nat.zero_div, Nat.zero_mul]
theorem Rk_top (a b L : Nat) (h : a < 2 ^ L) : Rk a b L = 0 := by unfold Rk; rw [Nat.div_eq_of_lt h, Nat.zero_mod]
end cin
end Go.Proofs.Ytohoajjdoihekaa
