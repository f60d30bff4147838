/-
  Numbers as rows of bits: limbs and bits, sums bit by bit with their carry, long division, powers by squaring. No call is walked here.
-/
import Derived.Test.YtohoajjdoihekaaNum5
set_option linter.unusedVariables false
set_option linter.unusedSimpArgs false
namespace Go.Proofs.Ytohoajjdoihekaa
open Go.RowKit
namespace cin
/-- bits of a limb -/
theorem bit_div (n j : Nat) : n.testBit j = decide (n / 2 ^ j % 2 = 1) := by rw [Nat.testBit_eq_decide_div_mod_eq]
def lb (n i : Nat) : Nat := n / 2 ^ (64 * i) % 18446744073709551616
theorem limb_lb (n i : Nat) : limb n i = (lb n i : Int) := rfl
theorem lb_bit (n i k : Nat) (hk : k < 64) : lb n i / 2 ^ k % 2 = n / 2 ^ (64 * i + k) % 2 := by
  have h1 := Nat.testBit_eq_decide_div_mod_eq (x := lb n i) (i := k)
  have h2 := Nat.testBit_eq_decide_div_mod_eq (x := n) (i := 64 * i + k)
  have h : (lb n i).testBit k = n.testBit (64 * i + k) := by
    unfold lb
    rw [pw64, Nat.testBit_mod_two_pow, Nat.testBit_div_two_pow, decide_eq_true hk, Bool.true_and]
    congr 1; omega
  rw [h1, h2] at h
  have a1 := Nat.mod_two_eq_zero_or_one (lb n i / 2 ^ k)
  have a2 := Nat.mod_two_eq_zero_or_one (n / 2 ^ (64 * i + k))
  rcases a1 with a1 | a1 <;> rcases a2 with a2 | a2 <;> simp [a1, a2] at h <;> omega
theorem lb_testBit (n i k : Nat) (hk : k < 64) : decide (lb n i / 2 ^ k % 2 = 1) = n.testBit (64 * i + k) := by
  rw [bit_div, lb_bit n i k hk]
theorem div_two (x k : Nat) : x / 2 ^ k / 2 = x / 2 ^ (k + 1) := by rw [Nat.div_div_eq_div_mul, Nat.pow_succ]
/-- from the highest bit down: twice, and the next bit -/
theorem div_step (x k : Nat) : x / 2 ^ k = 2 * (x / 2 ^ (k + 1)) + (if x.testBit k then 1 else 0) := by
  rw [bit_div, ← div_two]
  have := Nat.mod_two_eq_zero_or_one (x / 2 ^ k)
  rcases this with h | h <;> simp [h] <;> omega
theorem lb_lt (n i : Nat) : lb n i < 18446744073709551616 := Nat.mod_lt _ (by decide)
theorem lb_top (n i : Nat) : lb n i / 2 ^ 64 = 0 := Nat.div_eq_of_lt (lb_lt n i)
theorem lb_step (n i k : Nat) (hk : k < 64) : lb n i / 2 ^ k = 2 * (lb n i / 2 ^ (k + 1)) + (if n.testBit (64 * i + k) then 1 else 0) := by
  rw [div_step, bit_div, lb_testBit n i k hk]
theorem tb_high {n L j : Nat} (h : n < 2 ^ L) (hj : L ≤ j) : n.testBit j = false := Nat.testBit_lt_two_pow (Nat.lt_of_lt_of_le h (Nat.pow_le_pow_right (by decide) hj))
/-- the carry into bit i -/
def cb (x y i : Nat) : Bool := decide (2 ^ i ≤ x % 2 ^ i + y % 2 ^ i)
theorem cb0 (x y : Nat) : cb x y 0 = false := by simp [cb, Nat.mod_one]
theorem mod_succ2 (x i : Nat) : x % 2 ^ (i + 1) = x % 2 ^ i + (if x.testBit i then 2 ^ i else 0) := by
  have hp : 0 < 2 ^ i := Nat.two_pow_pos i
  have h := Nat.div_add_mod x (2 ^ i)
  have hl := Nat.mod_lt x hp
  have hd : x % 2 ^ (i + 1) = x % 2 ^ i + 2 ^ i * (x / 2 ^ i % 2) := by rw [Nat.pow_succ, Nat.mod_mul]
  rw [hd, bit_div]
  have := Nat.mod_two_eq_zero_or_one (x / 2 ^ i)
  rcases this with h | h <;> simp [h]
theorem cb_div (x y i : Nat) : (x + y) / 2 ^ i = x / 2 ^ i + y / 2 ^ i + (if cb x y i then 1 else 0) := by
  have hp : 0 < 2 ^ i := Nat.two_pow_pos i
  have h1 := Nat.div_add_mod x (2 ^ i)
  have h2 := Nat.div_add_mod y (2 ^ i)
  have l1 := Nat.mod_lt x hp
  have l2 := Nat.mod_lt y hp
  have e : x + y = 2 ^ i * (x / 2 ^ i + y / 2 ^ i) + (x % 2 ^ i + y % 2 ^ i) := by rw [Nat.mul_add]; omega
  unfold cb
  rw [e, Nat.mul_add_div hp]
  clear e h1 h2
  by_cases h : 2 ^ i ≤ x % 2 ^ i + y % 2 ^ i
  · rw [decide_eq_true h, if_pos rfl]
    have : (x % 2 ^ i + y % 2 ^ i) / 2 ^ i = 1 := by
      rw [Nat.div_eq_iff hp]; omega
    omega
  · rw [decide_eq_false h]
    rw [Nat.div_eq_of_lt (Nat.lt_of_not_le h)]; simp
theorem cb_sum (x y i : Nat) : (x + y).testBit i = ((x.testBit i != y.testBit i) != cb x y i) := by
  have h := cb_div x y i
  rw [bit_div (x + y), bit_div x, bit_div y, h]
  have h1 := Nat.mod_two_eq_zero_or_one (x / 2 ^ i)
  have h2 := Nat.mod_two_eq_zero_or_one (y / 2 ^ i)
  cases cb x y i <;> rcases h1 with h1 | h1 <;> rcases h2 with h2 | h2 <;> simp [h1, h2] <;> omega
theorem cb_next (x y i : Nat) : cb x y (i + 1) = ((x.testBit i && y.testBit i) || (x.testBit i && cb x y i) || (y.testBit i && cb x y i)) := by
  have hp : 0 < 2 ^ i := Nat.two_pow_pos i
  have l1 := Nat.mod_lt x hp
  have l2 := Nat.mod_lt y hp
  unfold cb
  rw [mod_succ2, mod_succ2, Nat.pow_succ]
  by_cases h : 2 ^ i ≤ x % 2 ^ i + y % 2 ^ i <;> cases x.testBit i <;> cases y.testBit i <;> simp [h] <;> omega
theorem cb_top (x y i : Nat) (hx : x < 2 ^ i) (hy : y < 2 ^ i) : cb x y i = (x + y).testBit i := by
  rw [cb_sum, tb_high hx (Nat.le_refl _), tb_high hy (Nat.le_refl _)]; simp
/-- behind the last carry the number is as it was -/
theorem cb_rest (o x p j : Nat) (hx : x < 2 ^ p) (hc : cb o x p = false) (hj : p ≤ j) : (o + x).testBit j = o.testBit j := by
  have h := cb_div o x p
  rw [hc, Nat.div_eq_of_lt hx] at h
  have e : (o + x) / 2 ^ p = o / 2 ^ p := by simpa using h
  have t := congrArg (fun n => Nat.testBit n (j - p)) e
  simp only [Nat.testBit_div_two_pow] at t
  rwa [show j - p + p = j by omega] at t
/-- long division, a bit more -/
theorem div_bit (n b i : Nat) (hb : 0 < b) :
    let r := 2 * (n / 2 ^ (i + 1) % b) + (if n.testBit i then 1 else 0)
    (n / b).testBit i = decide (b ≤ r) ∧ n / 2 ^ i % b = (if b ≤ r then r - b else r) ∧ r < 2 * b := by
  intro r
  have hs := div_step n i
  have hm : n / 2 ^ (i + 1) % b < b := Nat.mod_lt _ hb
  have hd := Nat.div_add_mod (n / 2 ^ (i + 1)) b
  obtain ⟨t, ht, ht1⟩ : ∃ t, t = (if n.testBit i then 1 else 0) ∧ t ≤ 1 := ⟨_, rfl, by split <;> omega⟩
  have hr : r = 2 * (n / 2 ^ (i + 1) % b) + t := by rw [ht]
  have hr2 : r < 2 * b := by omega
  have e : n / 2 ^ i = b * (2 * (n / 2 ^ (i + 1) / b)) + r := by
    rw [hs, ← ht, hr]
    have : b * (2 * (n / 2 ^ (i + 1) / b)) = 2 * (b * (n / 2 ^ (i + 1) / b)) := by rw [Nat.mul_left_comm]
    omega
  have q : (n / b) / 2 ^ i = 2 * (n / 2 ^ (i + 1) / b) + r / b := by
    rw [Nat.div_div_eq_div_mul, Nat.mul_comm, ← Nat.div_div_eq_div_mul, e, Nat.mul_add_div hb]
  have m : n / 2 ^ i % b = r % b := by rw [e, Nat.mul_add_mod]
  refine ⟨?_, ?_, hr2⟩
  · rw [bit_div, q]
    by_cases h : b ≤ r
    · have : r / b = 1 := by rw [Nat.div_eq_iff hb]; omega
      rw [this, decide_eq_true h]; simp
    · rw [Nat.div_eq_of_lt (Nat.lt_of_not_le h), decide_eq_false h]; simp
  · rw [m]
    by_cases h : b ≤ r
    · rw [if_pos h, Nat.mod_eq_sub_mod h, Nat.mod_eq_of_lt (by omega)]
    · rw [if_neg h, Nat.mod_eq_of_lt (Nat.lt_of_not_le h)]
/-- powers by squaring, from the highest bit -/
theorem pow_bit (a b i : Nat) : a ^ (b / 2 ^ i) = (a ^ (b / 2 ^ (i + 1)) * a ^ (b / 2 ^ (i + 1))) * (if b.testBit i then a else 1) := by
  have hs := div_step b i
  rw [hs]
  cases b.testBit i
  · simp [Nat.two_mul, Nat.pow_add]
  · simp [Nat.two_mul, Nat.pow_add, Nat.pow_succ]
end cin
end Go.Proofs.Ytohoajjdoihekaa
