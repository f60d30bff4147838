/-
  Numbers: shifts, signs and single bits of words, bit by bit. No call is walked here.
-/
import Derived.Test.YtohoajjdoihekaaNumB
import Derived.Test.YtohoajjdoihekaaNum6
set_option linter.unusedVariables false
set_option linter.unusedSimpArgs false
namespace Go.Proofs.Ytohoajjdoihekaa
open Go.RowKit
namespace cin
theorem tbM (n i : Nat) : (n % M).testBit i = (decide (i < 256) && n.testBit i) := by
  show (n % 2 ^ 256).testBit i = _
  rw [Nat.testBit_mod_two_pow]
theorem tb_hiM {n i : Nat} (h : n < M) (hi : 256 ≤ i) : n.testBit i = false := tb_high (L := 256) h hi
theorem fshl_bit (a b i : Nat) (ha : a < 256) (hi : i < 256) : (fshl a b).testBit i = (decide (a ≤ i) && b.testBit (i - a)) := by
  unfold fshl
  rw [if_pos ha, tbM, decide_eq_true hi, Bool.true_and, Nat.testBit_mul_two_pow]
theorem fshr_bit (a b i : Nat) (ha : a < 256) : (fshr a b).testBit i = b.testBit (i + a) := by
  unfold fshr
  rw [if_pos ha, Nat.testBit_div_two_pow]
theorem fnot_bit (a i : Nat) (ha : a < M) (hi : i < 256) : (fnot a).testBit i = !a.testBit i := by
  unfold fnot
  have e : M - 1 - a = 2 ^ 256 - (a + 1) := by show 2 ^ 256 - 1 - a = _; omega
  rw [e, Nat.testBit_two_pow_sub_succ ha, decide_eq_true hi, Bool.true_and]
theorem neg_bit (b : Nat) (hb : b < M) : neg b = b.testBit 255 := by
  have h : b.testBit 255 = decide (b / 2 ^ 255 % 2 = 1) := bit_div b 255
  rw [h]
  have e : (2 : Nat) ^ 255 = 57896044618658097711785492504343953926634992332820282019728792003956564819968 := by decide
  rw [e]
  unfold neg M at *
  rw [Nat.mod_eq_of_lt hb, Bool.eq_iff_iff]
  simp only [decide_eq_true_eq]
  omega
/-- bit i of the number b moved up by n (down, if n is below 0), with fill where there was nothing -/
def shb (b : Nat) (n : Int) (fill : Bool) (i : Nat) : Bool := if 0 ≤ (i : Int) - n ∧ (i : Int) - n < 256 then b.testBit ((i : Int) - n).toNat else fill
theorem fint_lt {a m : Nat} (ha : a < M) (h : a < m) : (if a % M < m then a % M else m) = a := by rw [Nat.mod_eq_of_lt ha, if_pos h]
theorem shl_bits (a b i : Nat) (hb : b < M) (hi : i < 256) : (fshl a b).testBit i = shb b ((if a < 256 then a else 256 : Nat) : Int) false i := by
  by_cases ha : a < 256
  · rw [fshl_bit a b i ha hi, if_pos ha]
    unfold shb
    by_cases h : a ≤ i
    · rw [decide_eq_true h, if_pos (by omega), Bool.true_and]; congr 1; omega
    · rw [decide_eq_false h, if_neg (by omega), Bool.false_and]
  · unfold fshl shb
    rw [if_neg ha, if_neg ha, if_neg (by omega), Nat.zero_testBit]
theorem shr_bits (a b i : Nat) (hb : b < M) (hi : i < 256) : (fshr a b).testBit i = shb b (-((if a < 256 then a else 256 : Nat) : Int)) false i := by
  by_cases ha : a < 256
  · rw [fshr_bit a b i ha, if_pos ha]
    unfold shb
    by_cases h : i + a < 256
    · rw [if_pos (by omega)]; congr 1; omega
    · rw [if_neg (by omega)]; exact tb_hiM hb (by omega)
  · unfold fshr shb
    rw [if_neg ha, if_neg ha, if_neg (by omega), Nat.zero_testBit]
theorem sar_bits (a b i : Nat) (hb : b < M) (hi : i < 256) : (fsar a b).testBit i = shb b (-((if a < 256 then a else 256 : Nat) : Int)) (b.testBit 255) i := by
  unfold fsar
  rw [neg_bit b hb]
  cases h : b.testBit 255
  · rw [if_neg (by decide), shr_bits a b i hb hi]
  · rw [if_pos rfl]
    have hn : fnot b < M := by unfold fnot; unfold M at *; omega
    rw [fnot_bit _ i (fshr_lt a _ hn) hi, shr_bits a _ i hn hi]
    unfold shb
    by_cases hc : 0 ≤ (i : Int) - -((if a < 256 then a else 256 : Nat) : Int) ∧ (i : Int) - -((if a < 256 then a else 256 : Nat) : Int) < 256
    · rw [if_pos hc, if_pos hc, fnot_bit b _ hb (by omega), Bool.not_not]
    · rw [if_neg hc, if_neg hc]; rfl
theorem byte_bits (a b i : Nat) (ha : a < 32) (hb : b < M) (hi : i < 256) : (fbyte a b).testBit i = (decide (i < 8) && b.testBit (8 * (31 - a) + i)) := by
  unfold fbyte
  rw [if_pos ha, show (256 : Nat) = 2 ^ 8 from rfl, Nat.testBit_mod_two_pow, fshr_bit _ _ _ (by omega), Nat.add_comm i]
theorem sext_bits (a b i : Nat) (ha : a < 31) (hb : b < M) (hi : i < 256) : (fsext a b).testBit i = if i < 8 * a + 8 then b.testBit i else b.testBit (8 * a + 7) := by
  have hl : fshl (248 - 8 * a) b < M := by unfold fshl; rw [if_pos (by omega)]; exact Nat.mod_lt _ Mpos
  unfold fsext
  rw [if_pos ha, sar_bits _ _ i hl hi, if_pos (by omega : 248 - 8 * a < 256), fshl_bit _ _ 255 (by omega) (by omega), decide_eq_true (by omega), Bool.true_and]
  unfold shb
  by_cases h : i < 8 * a + 8
  · rw [if_pos (by omega), if_pos h, fshl_bit _ _ _ (by omega) (by omega), decide_eq_true (by omega), Bool.true_and]; congr 1; omega
  · rw [if_neg (by omega), if_neg h]; congr 1; omega
theorem slt_num (a b : Nat) (ha : a < M) (hb : b < M) : ltw (fadd a 57896044618658097711785492504343953926634992332820282019728792003956564819968) (fadd b 57896044618658097711785492504343953926634992332820282019728792003956564819968) = fslt a b := by
  unfold ltw fadd fslt neg M at *
  rw [Nat.mod_eq_of_lt ha, Nat.mod_eq_of_lt hb]
  by_cases h1 : 57896044618658097711785492504343953926634992332820282019728792003956564819968 ≤ a <;> by_cases h2 : 57896044618658097711785492504343953926634992332820282019728792003956564819968 ≤ b <;> simp [h1, h2] <;> omega
end cin
end Go.Proofs.Ytohoajjdoihekaa
