/-
  Numbers: the limbs of a number, sums and differences limb by limb. No program is named here.
-/
import Derived.WalkKit
set_option linter.unusedVariables false
set_option linter.unusedSimpArgs false
namespace Go.Proofs.Ytohoajjdoihekaa
open Go.RowKit
namespace cin
def limb (n i : Nat) : Int := ((n / 2 ^ (64 * i) % 18446744073709551616 : Nat) : Int)
abbrev wv (n : Nat) : Value := .agg #[.int .u64 (limb n 0), .int .u64 (limb n 1), .int .u64 (limb n 2), .int .u64 (limb n 3)]
theorem limb_lo (n i : Nat) : 0 ≤ limb n i := Int.natCast_nonneg _
theorem limb_hi (n i : Nat) : limb n i < 18446744073709551616 := by unfold limb; omega
/-- the carry into limb k -/
def cy (a b k : Nat) : Nat := (a % 2 ^ (64 * k) + b % 2 ^ (64 * k)) / 2 ^ (64 * k)
theorem pw0 : 2 ^ (64 * 0) = 1 := rfl
theorem pw1 : 2 ^ (64 * 1) = 18446744073709551616 := rfl
theorem pw2 : 2 ^ (64 * 2) = 340282366920938463463374607431768211456 := rfl
theorem pw3 : 2 ^ (64 * 3) = 6277101735386680763835789423207666416102355444464034512896 := rfl
theorem pw4 : 2 ^ (64 * 4) = 115792089237316195423570985008687907853269984665640564039457584007913129639936 := rfl
theorem cy_le (a b k : Nat) : cy a b k ≤ 1 := by
  unfold cy
  have h1 : a % 2 ^ (64 * k) < 2 ^ (64 * k) := Nat.mod_lt _ (Nat.two_pow_pos _)
  have h2 : b % 2 ^ (64 * k) < 2 ^ (64 * k) := Nat.mod_lt _ (Nat.two_pow_pos _)
  have : (a % 2 ^ (64 * k) + b % 2 ^ (64 * k)) / 2 ^ (64 * k) < 2 := by
    rw [Nat.div_lt_iff_lt_mul (Nat.two_pow_pos _)]; omega
  omega
theorem k4 {k : Nat} (h : k < 4) : k = 0 ∨ k = 1 ∨ k = 2 ∨ k = 3 := by omega
theorem add_limb (a b k : Nat) (hk : k < 4) : (limb a k + limb b k + cy a b k) % 18446744073709551616 = limb (a + b) k := by
  unfold limb cy
  rcases k4 hk with rfl | rfl | rfl | rfl <;> simp only [pw0, pw1, pw2, pw3] <;> omega
theorem add_cy (a b k : Nat) (hk : k < 4) : (limb a k + limb b k + cy a b k) / 18446744073709551616 = cy a b (k + 1) := by
  unfold limb cy
  rcases k4 hk with rfl | rfl | rfl | rfl <;> simp only [pw0, pw1, pw2, pw3, pw4, Nat.zero_add, Nat.reduceAdd] <;> omega
/-- 2 to the 256 -/
abbrev M : Nat := 115792089237316195423570985008687907853269984665640564039457584007913129639936
/-- the borrow out of limb k -/
def bw (a b k : Nat) : Nat := if a % 2 ^ (64 * k) < b % 2 ^ (64 * k) then 1 else 0
def subw (a b : Nat) : Nat := a + M - b % M
theorem bw_le (a b k : Nat) : bw a b k ≤ 1 := by unfold bw; split <;> omega
theorem sub_limb (a b k : Nat) (hk : k < 4) : (limb a k + 18446744073709551616 - limb b k - bw a b k) % 18446744073709551616 = limb (subw a b) k := by
  unfold limb bw subw M
  rcases k4 hk with rfl | rfl | rfl | rfl <;> simp only [pw0, pw1, pw2, pw3] <;> split <;> omega
theorem sub_bw (a b k : Nat) (hk : k < 4) : (if limb a k < limb b k + bw a b k then (1 : Int) else 0) = bw a b (k + 1) := by
  unfold limb bw
  rcases k4 hk with rfl | rfl | rfl | rfl <;> simp only [pw0, pw1, pw2, pw3, pw4, Nat.zero_add, Nat.reduceAdd] <;> split <;> split <;> split <;> omega
theorem pw64 : (18446744073709551616 : Nat) = 2 ^ 64 := rfl
theorem limb_and (a b k : Nat) : ((a / 2 ^ (64 * k) % 18446744073709551616) &&& (b / 2 ^ (64 * k) % 18446744073709551616)) = (a &&& b) / 2 ^ (64 * k) % 18446744073709551616 := by
  apply Nat.eq_of_testBit_eq; intro i
  rw [pw64]
  simp only [Nat.testBit_and, Nat.testBit_mod_two_pow, Nat.testBit_div_two_pow]
  cases decide (i < 64) <;> simp
theorem limb_or (a b k : Nat) : ((a / 2 ^ (64 * k) % 18446744073709551616) ||| (b / 2 ^ (64 * k) % 18446744073709551616)) = (a ||| b) / 2 ^ (64 * k) % 18446744073709551616 := by
  apply Nat.eq_of_testBit_eq; intro i
  rw [pw64]
  simp only [Nat.testBit_or, Nat.testBit_mod_two_pow, Nat.testBit_div_two_pow]
  cases decide (i < 64) <;> simp
theorem limb_xor (a b k : Nat) : ((a / 2 ^ (64 * k) % 18446744073709551616) ^^^ (b / 2 ^ (64 * k) % 18446744073709551616)) = (a ^^^ b) / 2 ^ (64 * k) % 18446744073709551616 := by
  apply Nat.eq_of_testBit_eq; intro i
  rw [pw64]
  simp only [Nat.testBit_xor, Nat.testBit_mod_two_pow, Nat.testBit_div_two_pow]
  cases decide (i < 64) <;> simp
def notw (a : Nat) : Nat := M - 1 - a % M
theorem limb_not (a k : Nat) (hk : k < 4) : 18446744073709551615 - limb a k = limb (notw a) k := by
  unfold limb notw M
  rcases k4 hk with rfl | rfl | rfl | rfl <;> simp only [pw0, pw1, pw2, pw3] <;> omega
/-- the sign of a word -/
def neg (a : Nat) : Bool := decide (57896044618658097711785492504343953926634992332820282019728792003956564819968 ≤ a % M)
theorem neg_limb (a : Nat) : (limb a 3 / 9223372036854775808 == 1) = neg a := by
  unfold limb neg M
  rw [pw3, Bool.eq_iff_iff]
  simp only [beq_iff_eq, decide_eq_true_eq]
  omega
end cin
end Go.Proofs.Ytohoajjdoihekaa
