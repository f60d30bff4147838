/-
  Numbers: a number out of its limbs, and how it turns when one limb is written. No program is named here.
-/
import Derived.Test.YtohoajjdoihekaaNum
set_option linter.unusedVariables false
set_option linter.unusedSimpArgs false
namespace Go.Proofs.Ytohoajjdoihekaa
namespace cin
/-- a limb, as a natural number -/
def limbN (n i : Nat) : Nat := n / 2 ^ (64 * i) % 18446744073709551616
theorem limb_eq (n i : Nat) : limb n i = (limbN n i : Int) := rfl
theorem limbN_lt (n i : Nat) : limbN n i < 18446744073709551616 := Nat.mod_lt _ (by omega)
/-- the number that the first n limbs make -/
def val (f : Nat → Nat) : Nat → Nat
  | 0 => 0
  | n + 1 => val f n + f n * 2 ^ (64 * n)
def upd (f : Nat → Nat) (p v : Nat) : Nat → Nat := fun i => if i = p then v else f i
theorem pwS (n : Nat) : 2 ^ (64 * (n + 1)) = 2 ^ (64 * n) * 18446744073709551616 := by
  rw [show 64 * (n + 1) = 64 * n + 64 by omega, Nat.pow_add]
theorem pwA (n m : Nat) : 2 ^ (64 * (n + m)) = 2 ^ (64 * n) * 2 ^ (64 * m) := by
  rw [show 64 * (n + m) = 64 * n + 64 * m by omega, Nat.pow_add]
theorem val_lt {f : Nat → Nat} (h : ∀ i, f i < 18446744073709551616) (n : Nat) : val f n < 2 ^ (64 * n) := by
  induction n with
  | zero => simp [val]
  | succ n ih =>
    simp only [val]
    rw [pwS]
    have h1 : f n * 2 ^ (64 * n) ≤ 18446744073709551615 * 2 ^ (64 * n) := Nat.mul_le_mul (by have := h n; omega) (Nat.le_refl _)
    omega
theorem limb_val {f : Nat → Nat} (h : ∀ i, f i < 18446744073709551616) (n i : Nat) (hi : i < n) : limbN (val f n) i = f i := by
  induction n with
  | zero => omega
  | succ n ih =>
    simp only [val]
    by_cases e : i = n
    · subst e
      unfold limbN
      have h2 := val_lt h i
      have h3 : (val f i + f i * 2 ^ (64 * i)) / 2 ^ (64 * i) = f i := by
        rw [Nat.add_mul_div_right _ _ (Nat.two_pow_pos _), Nat.div_eq_of_lt h2]; omega
      rw [h3]
      exact Nat.mod_eq_of_lt (h i)
    · have hin : i < n := by omega
      rw [← ih hin]
      unfold limbN
      obtain ⟨d, rfl⟩ : ∃ d, n = (i + 1) + d := ⟨n - (i + 1), by omega⟩
      rw [pwA (i + 1) d, pwS i]
      have e2 : f (i + 1 + d) * (2 ^ (64 * i) * 18446744073709551616 * 2 ^ (64 * d)) = (f (i + 1 + d) * 2 ^ (64 * d) * 18446744073709551616) * 2 ^ (64 * i) := by
        rw [Nat.mul_comm (2 ^ (64 * i)) 18446744073709551616, Nat.mul_assoc 18446744073709551616, Nat.mul_comm (2 ^ (64 * i)) (2 ^ (64 * d)), ← Nat.mul_assoc, ← Nat.mul_assoc, Nat.mul_right_comm (f (i + 1 + d)) 18446744073709551616 (2 ^ (64 * d))]
      rw [e2, Nat.add_mul_div_right _ _ (Nat.two_pow_pos _), Nat.add_mul_mod_self_right]
theorem val_upd_past (f : Nat → Nat) (p v n : Nat) (h : n ≤ p) : val (upd f p v) n = val f n := by
  induction n with
  | zero => rfl
  | succ n ih =>
    simp only [val]
    rw [ih (by omega)]
    simp [upd, show n ≠ p by omega]
theorem val_upd (f : Nat → Nat) (p v n : Nat) (h : p < n) : val (upd f p v) n + f p * 2 ^ (64 * p) = val f n + v * 2 ^ (64 * p) := by
  induction n with
  | zero => omega
  | succ n ih =>
    simp only [val]
    by_cases e : p = n
    · subst e
      rw [val_upd_past f p v p (Nat.le_refl _)]
      simp only [upd, if_true]
      omega
    · have := ih (by omega)
      simp only [upd, show n ≠ p by omega, if_false] at this ⊢
      omega
theorem val_limb (b n : Nat) : val (limbN b) n = b % 2 ^ (64 * n) := by
  induction n with
  | zero => simp [val, Nat.mod_one]
  | succ n ih =>
    simp only [val]
    rw [ih, pwS, Nat.mod_mul, Nat.mul_comm (2 ^ (64 * n))]
    rfl
theorem mod_step (b n : Nat) : b % 2 ^ (64 * (n + 1)) = b % 2 ^ (64 * n) + limbN b n * 2 ^ (64 * n) := by
  rw [← val_limb, ← val_limb]; rfl
theorem val_zero (n : Nat) : val (fun _ => 0) n = 0 := by
  induction n with
  | zero => rfl
  | succ n ih => simp only [val]; rw [ih, Nat.zero_mul]
theorem val_congr {f g : Nat → Nat} (n : Nat) (h : ∀ i, i < n → f i = g i) : val f n = val g n := by
  induction n with
  | zero => rfl
  | succ n ih => simp only [val]; rw [ih (fun i hi => h i (by omega)), h n (by omega)]
theorem upd_lt {f : Nat → Nat} (h : ∀ i, f i < 18446744073709551616) {p v : Nat} (hv : v < 18446744073709551616) : ∀ i, upd f p v i < 18446744073709551616 := by
  intro i; unfold upd; split
  · exact hv
  · exact h i
/-- one step of the inner loop -/
theorem prod_inner {g : Nat → Nat} {S x y b c i j : Nat} (hij : i + j < 8) (hy : y = limbN b j)
    (h : val g 8 + c * 2 ^ (64 * (i + j)) = S + x * (b % 2 ^ (64 * j)) * 2 ^ (64 * i)) :
    val (upd g (i + j) ((x * y + g (i + j) + c) % 18446744073709551616)) 8 + (x * y + g (i + j) + c) / 18446744073709551616 * 2 ^ (64 * (i + (j + 1))) = S + x * (b % 2 ^ (64 * (j + 1))) * 2 ^ (64 * i) := by
  have hu := val_upd g (i + j) ((x * y + g (i + j) + c) % 18446744073709551616) 8 hij
  rw [mod_step b j, ← hy, show i + (j + 1) = (i + j) + 1 by omega, pwS (i + j)]
  have e1 : x * (b % 2 ^ (64 * j) + y * 2 ^ (64 * j)) * 2 ^ (64 * i) = x * (b % 2 ^ (64 * j)) * 2 ^ (64 * i) + x * y * 2 ^ (64 * (i + j)) := by
    rw [pwA i j, Nat.mul_add, Nat.add_mul, ← Nat.mul_assoc x y, Nat.mul_assoc (x * y), Nat.mul_comm (2 ^ (64 * j))]
  rw [e1, ← Nat.add_assoc, ← h]
  generalize 2 ^ (64 * (i + j)) = P at *
  have e2 : (x * y + g (i + j) + c) / 18446744073709551616 * (P * 18446744073709551616) + (x * y + g (i + j) + c) % 18446744073709551616 * P = (x * y + g (i + j) + c) * P := by
    rw [Nat.mul_comm P, ← Nat.mul_assoc, ← Nat.add_mul]
    congr 1
    omega
  have e3 : (x * y + g (i + j) + c) * P = x * y * P + g (i + j) * P + c * P := by rw [Nat.add_mul, Nat.add_mul]
  omega
/-- eight limbs as a value -/
abbrev wv8 (n : Nat) : Value := .agg #[.int .u64 (limb n 0), .int .u64 (limb n 1), .int .u64 (limb n 2), .int .u64 (limb n 3), .int .u64 (limb n 4), .int .u64 (limb n 5), .int .u64 (limb n 6), .int .u64 (limb n 7)]
theorem k8 {k : Nat} (h : k < 8) : k = 0 ∨ k = 1 ∨ k = 2 ∨ k = 3 ∨ k = 4 ∨ k = 5 ∨ k = 6 ∨ k = 7 := by omega
/-- one round of the outer loop -/
theorem prod_outer {g : Nat → Nat} {a b x c i : Nat} (hi : i < 4) (hx : x = limbN a i) (hz : g (i + 4) = 0)
    (h : val g 8 + c * 2 ^ (64 * (i + 4)) = a % 2 ^ (64 * i) * (b % 2 ^ (64 * 4)) + x * (b % 2 ^ (64 * 4)) * 2 ^ (64 * i)) :
    val (upd g (i + 4) c) 8 = a % 2 ^ (64 * (i + 1)) * (b % 2 ^ (64 * 4)) := by
  have hu := val_upd g (i + 4) c 8 (by omega)
  rw [hz, Nat.zero_mul, Nat.add_zero, h] at hu
  rw [hu, mod_step a i, ← hx, Nat.add_mul, Nat.mul_right_comm x]
/-- the product of two words, whole -/
def prodw (a b : Nat) : Nat := a % M * (b % M)
theorem prod_fin (a b : Nat) : a % 2 ^ (64 * 4) * (b % 2 ^ (64 * 4)) = prodw a b := rfl
theorem limbs_of_val {f : Nat → Nat} (h : ∀ i, f i < 18446744073709551616) {n : Nat} (hn : val f 8 = n) (i : Nat) (hi : i < 8) : ((f i : Nat) : Int) = limb n i := by
  rw [limb_eq, ← hn, limb_val h 8 i hi]
theorem mul_add_lt {x y m s : Nat} (hx : x < 18446744073709551616) (hy : y < 18446744073709551616) (hm : m < 18446744073709551616) (hs : s < 18446744073709551616) : (x * y + m + s) / 18446744073709551616 < 18446744073709551616 := by
  have h : x * y ≤ 18446744073709551615 * 18446744073709551615 := Nat.mul_le_mul (by omega) (by omega)
  omega
end cin
end Go.Proofs.Ytohoajjdoihekaa
