/-
  Numbers: shifts, signs and single bits of words, bit by bit. No call is walked here.
-/
import Derived.WalkKit
import Derived.Deep.OwnRows
import Derived.Test.YtohoajjdoihekaaDoorRows
import Derived.WalkSpells
import Derived.WalkLawsBesides
import Derived.ChangeKeysEq
set_option linter.unusedVariables false
set_option linter.unusedSimpArgs false
/-
  Numbers: the limbs of a number, sums and differences limb by limb. No program is named here.
-/
namespace Go.Proofs.YtohoajjdoihekaaDoor
open Go.RowKit
namespace cin
def limb (n i : Nat) : Int := ((n / 2 ^ (64 * i) % 18446744073709551616 : Nat) : Int)
abbrev wv (n : Nat) : Value := .agg #[.int .u64 (limb n 0), .int .u64 (limb n 1), .int .u64 (limb n 2), .int .u64 (limb n 3)]
theorem limb_lo (n i : Nat) : 0 ≤ limb n i := Int.natCast_nonneg _
theorem limb_hi (n i : Nat) : limb n i < 18446744073709551616 := by unfold limb; omega
/-- the carry into limb k -/
def cy (a b k : Nat) : Nat := (a % 2 ^ (64 * k) + b % 2 ^ (64 * k)) / 2 ^ (64 * k)
theorem pw0 : 2 ^ (64 * 0) = 1 := rfl
theorem pw1 : 2 ^ (64 * 1) = 18446744073709551616 := rfl
theorem pw2 : 2 ^ (64 * 2) = 340282366920938463463374607431768211456 := rfl
theorem pw3 : 2 ^ (64 * 3) = 6277101735386680763835789423207666416102355444464034512896 := rfl
theorem pw4 : 2 ^ (64 * 4) = 115792089237316195423570985008687907853269984665640564039457584007913129639936 := rfl
theorem cy_le (a b k : Nat) : cy a b k ≤ 1 := by
  unfold cy
  have h1 : a % 2 ^ (64 * k) < 2 ^ (64 * k) := Nat.mod_lt _ (Nat.two_pow_pos _)
  have h2 : b % 2 ^ (64 * k) < 2 ^ (64 * k) := Nat.mod_lt _ (Nat.two_pow_pos _)
  have : (a % 2 ^ (64 * k) + b % 2 ^ (64 * k)) / 2 ^ (64 * k) < 2 := by
    rw [Nat.div_lt_iff_lt_mul (Nat.two_pow_pos _)]; omega
  omega
theorem k4 {k : Nat} (h : k < 4) : k = 0 ∨ k = 1 ∨ k = 2 ∨ k = 3 := by omega
theorem add_limb (a b k : Nat) (hk : k < 4) : (limb a k + limb b k + cy a b k) % 18446744073709551616 = limb (a + b) k := by
  unfold limb cy
  rcases k4 hk with rfl | rfl | rfl | rfl <;> simp only [pw0, pw1, pw2, pw3] <;> omega
theorem add_cy (a b k : Nat) (hk : k < 4) : (limb a k + limb b k + cy a b k) / 18446744073709551616 = cy a b (k + 1) := by
  unfold limb cy
  rcases k4 hk with rfl | rfl | rfl | rfl <;> simp only [pw0, pw1, pw2, pw3, pw4, Nat.zero_add, Nat.reduceAdd] <;> omega
/-- 2 to the 256 -/
abbrev M : Nat := 115792089237316195423570985008687907853269984665640564039457584007913129639936
/-- the borrow out of limb k -/
def bw (a b k : Nat) : Nat := if a % 2 ^ (64 * k) < b % 2 ^ (64 * k) then 1 else 0
def subw (a b : Nat) : Nat := a + M - b % M
theorem bw_le (a b k : Nat) : bw a b k ≤ 1 := by unfold bw; split <;> omega
theorem sub_limb (a b k : Nat) (hk : k < 4) : (limb a k + 18446744073709551616 - limb b k - bw a b k) % 18446744073709551616 = limb (subw a b) k := by
  unfold limb bw subw M
  rcases k4 hk with rfl | rfl | rfl | rfl <;> simp only [pw0, pw1, pw2, pw3] <;> split <;> omega
theorem sub_bw (a b k : Nat) (hk : k < 4) : (if limb a k < limb b k + bw a b k then (1 : Int) else 0) = bw a b (k + 1) := by
  unfold limb bw
  rcases k4 hk with rfl | rfl | rfl | rfl <;> simp only [pw0, pw1, pw2, pw3, pw4, Nat.zero_add, Nat.reduceAdd] <;> split <;> split <;> split <;> omega
theorem pw64 : (18446744073709551616 : Nat) = 2 ^ 64 := rfl
theorem limb_and (a b k : Nat) : ((a / 2 ^ (64 * k) % 18446744073709551616) &&& (b / 2 ^ (64 * k) % 18446744073709551616)) = (a &&& b) / 2 ^ (64 * k) % 18446744073709551616 := by
  apply Nat.eq_of_testBit_eq; intro i
  rw [pw64]
  simp only [Nat.testBit_and, Nat.testBit_mod_two_pow, Nat.testBit_div_two_pow]
  cases decide (i < 64) <;> simp
theorem limb_or (a b k : Nat) : ((a / 2 ^ (64 * k) % 18446744073709551616) ||| (b / 2 ^ (64 * k) % 18446744073709551616)) = (a ||| b) / 2 ^ (64 * k) % 18446744073709551616 := by
  apply Nat.eq_of_testBit_eq; intro i
  rw [pw64]
  simp only [Nat.testBit_or, Nat.testBit_mod_two_pow, Nat.testBit_div_two_pow]
  cases decide (i < 64) <;> simp
theorem limb_xor (a b k : Nat) : ((a / 2 ^ (64 * k) % 18446744073709551616) ^^^ (b / 2 ^ (64 * k) % 18446744073709551616)) = (a ^^^ b) / 2 ^ (64 * k) % 18446744073709551616 := by
  apply Nat.eq_of_testBit_eq; intro i
  rw [pw64]
  simp only [Nat.testBit_xor, Nat.testBit_mod_two_pow, Nat.testBit_div_two_pow]
  cases decide (i < 64) <;> simp
def notw (a : Nat) : Nat := M - 1 - a % M
theorem limb_not (a k : Nat) (hk : k < 4) : 18446744073709551615 - limb a k = limb (notw a) k := by
  unfold limb notw M
  rcases k4 hk with rfl | rfl | rfl | rfl <;> simp only [pw0, pw1, pw2, pw3] <;> omega
/-- the sign of a word -/
def neg (a : Nat) : Bool := decide (57896044618658097711785492504343953926634992332820282019728792003956564819968 ≤ a % M)
theorem neg_limb (a : Nat) : (limb a 3 / 9223372036854775808 == 1) = neg a := by
  unfold limb neg M
  rw [pw3, Bool.eq_iff_iff]
  simp only [beq_iff_eq, decide_eq_true_eq]
  omega
end cin
end Go.Proofs.YtohoajjdoihekaaDoor

/-
  Numbers: a number out of its limbs, and how it turns when one limb is written. No program is named here.
-/
namespace Go.Proofs.YtohoajjdoihekaaDoor
namespace cin
/-- a limb, as a natural number -/
def limbN (n i : Nat) : Nat := n / 2 ^ (64 * i) % 18446744073709551616
theorem limb_eq (n i : Nat) : limb n i = (limbN n i : Int) := rfl
theorem limbN_lt (n i : Nat) : limbN n i < 18446744073709551616 := Nat.mod_lt _ (by omega)
/-- the number that the first n limbs make -/
def val (f : Nat → Nat) : Nat → Nat
  | 0 => 0
  | n + 1 => val f n + f n * 2 ^ (64 * n)
def upd (f : Nat → Nat) (p v : Nat) : Nat → Nat := fun i => if i = p then v else f i
theorem pwS (n : Nat) : 2 ^ (64 * (n + 1)) = 2 ^ (64 * n) * 18446744073709551616 := by
  rw [show 64 * (n + 1) = 64 * n + 64 by omega, Nat.pow_add]
theorem pwA (n m : Nat) : 2 ^ (64 * (n + m)) = 2 ^ (64 * n) * 2 ^ (64 * m) := by
  rw [show 64 * (n + m) = 64 * n + 64 * m by omega, Nat.pow_add]
theorem val_lt {f : Nat → Nat} (h : ∀ i, f i < 18446744073709551616) (n : Nat) : val f n < 2 ^ (64 * n) := by
  induction n with
  | zero => simp [val]
  | succ n ih =>
    simp only [val]
    rw [pwS]
    have h1 : f n * 2 ^ (64 * n) ≤ 18446744073709551615 * 2 ^ (64 * n) := Nat.mul_le_mul (by have := h n; omega) (Nat.le_refl _)
    omega
theorem limb_val {f : Nat → Nat} (h : ∀ i, f i < 18446744073709551616) (n i : Nat) (hi : i < n) : limbN (val f n) i = f i := by
  induction n with
  | zero => omega
  | succ n ih =>
    simp only [val]
    by_cases e : i = n
    · subst e
      unfold limbN
      have h2 := val_lt h i
      have h3 : (val f i + f i * 2 ^ (64 * i)) / 2 ^ (64 * i) = f i := by
        rw [Nat.add_mul_div_right _ _ (Nat.two_pow_pos _), Nat.div_eq_of_lt h2]; omega
      rw [h3]
      exact Nat.mod_eq_of_lt (h i)
    · have hin : i < n := by omega
      rw [← ih hin]
      unfold limbN
      obtain ⟨d, rfl⟩ : ∃ d, n = (i + 1) + d := ⟨n - (i + 1), by omega⟩
      rw [pwA (i + 1) d, pwS i]
      have e2 : f (i + 1 + d) * (2 ^ (64 * i) * 18446744073709551616 * 2 ^ (64 * d)) = (f (i + 1 + d) * 2 ^ (64 * d) * 18446744073709551616) * 2 ^ (64 * i) := by
        rw [Nat.mul_comm (2 ^ (64 * i)) 18446744073709551616, Nat.mul_assoc 18446744073709551616, Nat.mul_comm (2 ^ (64 * i)) (2 ^ (64 * d)), ← Nat.mul_assoc, ← Nat.mul_assoc, Nat.mul_right_comm (f (i + 1 + d)) 18446744073709551616 (2 ^ (64 * d))]
      rw [e2, Nat.add_mul_div_right _ _ (Nat.two_pow_pos _), Nat.add_mul_mod_self_right]
theorem val_upd_past (f : Nat → Nat) (p v n : Nat) (h : n ≤ p) : val (upd f p v) n = val f n := by
  induction n with
  | zero => rfl
  | succ n ih =>
    simp only [val]
    rw [ih (by omega)]
    simp [upd, show n ≠ p by omega]
theorem val_upd (f : Nat → Nat) (p v n : Nat) (h : p < n) : val (upd f p v) n + f p * 2 ^ (64 * p) = val f n + v * 2 ^ (64 * p) := by
  induction n with
  | zero => omega
  | succ n ih =>
    simp only [val]
    by_cases e : p = n
    · subst e
      rw [val_upd_past f p v p (Nat.le_refl _)]
      simp only [upd, if_true]
      omega
    · have := ih (by omega)
      simp only [upd, show n ≠ p by omega, if_false] at this ⊢
      omega
theorem val_limb (b n : Nat) : val (limbN b) n = b % 2 ^ (64 * n) := by
  induction n with
  | zero => simp [val, Nat.mod_one]
  | succ n ih =>
    simp only [val]
    rw [ih, pwS, Nat.mod_mul, Nat.mul_comm (2 ^ (64 * n))]
    rfl
theorem mod_step (b n : Nat) : b % 2 ^ (64 * (n + 1)) = b % 2 ^ (64 * n) + limbN b n * 2 ^ (64 * n) := by
  rw [← val_limb, ← val_limb]; rfl
theorem val_zero (n : Nat) : val (fun _ => 0) n = 0 := by
  induction n with
  | zero => rfl
  | succ n ih => simp only [val]; rw [ih, Nat.zero_mul]
theorem val_congr {f g : Nat → Nat} (n : Nat) (h : ∀ i, i < n → f i = g i) : val f n = val g n := by
  induction n with
  | zero => rfl
  | succ n ih => simp only [val]; rw [ih (fun i hi => h i (by omega)), h n (by omega)]
theorem upd_lt {f : Nat → Nat} (h : ∀ i, f i < 18446744073709551616) {p v : Nat} (hv : v < 18446744073709551616) : ∀ i, upd f p v i < 18446744073709551616 := by
  intro i; unfold upd; split
  · exact hv
  · exact h i
/-- one step of the inner loop -/
theorem prod_inner {g : Nat → Nat} {S x y b c i j : Nat} (hij : i + j < 8) (hy : y = limbN b j)
    (h : val g 8 + c * 2 ^ (64 * (i + j)) = S + x * (b % 2 ^ (64 * j)) * 2 ^ (64 * i)) :
    val (upd g (i + j) ((x * y + g (i + j) + c) % 18446744073709551616)) 8 + (x * y + g (i + j) + c) / 18446744073709551616 * 2 ^ (64 * (i + (j + 1))) = S + x * (b % 2 ^ (64 * (j + 1))) * 2 ^ (64 * i) := by
  have hu := val_upd g (i + j) ((x * y + g (i + j) + c) % 18446744073709551616) 8 hij
  rw [mod_step b j, ← hy, show i + (j + 1) = (i + j) + 1 by omega, pwS (i + j)]
  have e1 : x * (b % 2 ^ (64 * j) + y * 2 ^ (64 * j)) * 2 ^ (64 * i) = x * (b % 2 ^ (64 * j)) * 2 ^ (64 * i) + x * y * 2 ^ (64 * (i + j)) := by
    rw [pwA i j, Nat.mul_add, Nat.add_mul, ← Nat.mul_assoc x y, Nat.mul_assoc (x * y), Nat.mul_comm (2 ^ (64 * j))]
  rw [e1, ← Nat.add_assoc, ← h]
  generalize 2 ^ (64 * (i + j)) = P at *
  have e2 : (x * y + g (i + j) + c) / 18446744073709551616 * (P * 18446744073709551616) + (x * y + g (i + j) + c) % 18446744073709551616 * P = (x * y + g (i + j) + c) * P := by
    rw [Nat.mul_comm P, ← Nat.mul_assoc, ← Nat.add_mul]
    congr 1
    omega
  have e3 : (x * y + g (i + j) + c) * P = x * y * P + g (i + j) * P + c * P := by rw [Nat.add_mul, Nat.add_mul]
  omega
/-- eight limbs as a value -/
abbrev wv8 (n : Nat) : Value := .agg #[.int .u64 (limb n 0), .int .u64 (limb n 1), .int .u64 (limb n 2), .int .u64 (limb n 3), .int .u64 (limb n 4), .int .u64 (limb n 5), .int .u64 (limb n 6), .int .u64 (limb n 7)]
theorem k8 {k : Nat} (h : k < 8) : k = 0 ∨ k = 1 ∨ k = 2 ∨ k = 3 ∨ k = 4 ∨ k = 5 ∨ k = 6 ∨ k = 7 := by omega
/-- one round of the outer loop -/
theorem prod_outer {g : Nat → Nat} {a b x c i : Nat} (hi : i < 4) (hx : x = limbN a i) (hz : g (i + 4) = 0)
    (h : val g 8 + c * 2 ^ (64 * (i + 4)) = a % 2 ^ (64 * i) * (b % 2 ^ (64 * 4)) + x * (b % 2 ^ (64 * 4)) * 2 ^ (64 * i)) :
    val (upd g (i + 4) c) 8 = a % 2 ^ (64 * (i + 1)) * (b % 2 ^ (64 * 4)) := by
  have hu := val_upd g (i + 4) c 8 (by omega)
  rw [hz, Nat.zero_mul, Nat.add_zero, h] at hu
  rw [hu, mod_step a i, ← hx, Nat.add_mul, Nat.mul_right_comm x]
/-- the product of two words, whole -/
def prodw (a b : Nat) : Nat := a % M * (b % M)
theorem prod_fin (a b : Nat) : a % 2 ^ (64 * 4) * (b % 2 ^ (64 * 4)) = prodw a b := rfl
theorem limbs_of_val {f : Nat → Nat} (h : ∀ i, f i < 18446744073709551616) {n : Nat} (hn : val f 8 = n) (i : Nat) (hi : i < 8) : ((f i : Nat) : Int) = limb n i := by
  rw [limb_eq, ← hn, limb_val h 8 i hi]
theorem mul_add_lt {x y m s : Nat} (hx : x < 18446744073709551616) (hy : y < 18446744073709551616) (hm : m < 18446744073709551616) (hs : s < 18446744073709551616) : (x * y + m + s) / 18446744073709551616 < 18446744073709551616 := by
  have h : x * y ≤ 18446744073709551615 * 18446744073709551615 := Nat.mul_le_mul (by omega) (by omega)
  omega
end cin
end Go.Proofs.YtohoajjdoihekaaDoor

/-
  Memory: rows of cells that the call itself has laid, and what becomes of them behind stores and calls.
-/
namespace Go.Proofs.YtohoajjdoihekaaDoor
open Go.RowKit
namespace cin
def u64s (f : Nat → Int) : Nat → Value := fun i => .int .u64 (f i)
theorem row_lit4 {w : World} {n : Nat} {t : TypeId} (f : Nat → Int) {x0 x1 x2 x3 : Int} (hn : n = w.heap.size) (h0 : x0 = f 0) (h1 : x1 = f 1) (h2 : x2 = f 2) (h3 : x3 = f 3) :
    (w.alloc (.cells #[.int .u64 x0, .int .u64 x1, .int .u64 x2, .int .u64 x3] t)).rowIs n t 4 (u64s f) := by
  subst hn
  refine World.rowIs_alloc w _ t _ fun i hi => ?_
  subst h0 h1 h2 h3
  rcases k4 hi with rfl | rfl | rfl | rfl <;> rfl
/-- the first k limbs are laid; one more -/
theorem row_step {w : World} {b : Nat} {t : TypeId} {n k : Nat} {f g : Nat → Int} (h : w.rowIs b t n (u64s fun i => if i < k then f i else g i)) {x : Int} (hx : x = f k) :
    (w.setCell ⟨b, k, none⟩ (.int .u64 x)).rowIs b t n (u64s fun i => if i < k + 1 then f i else g i) := by
  subst hx
  refine (h.set k _).congr fun i _ => ?_
  simp only [u64s]
  by_cases e : i = k
  · subst e; simp
  · by_cases l : i < k
    · simp [e, l, Nat.lt_succ_of_lt l]
    · simp [e, l, show ¬ i < k + 1 by omega]
theorem row_cells4 {w : World} {b : Nat} {t : TypeId} {f : Nat → Int} (h : w.rowIs b t 4 (u64s f)) :
    w.cell? ⟨b, 0, none⟩ = some (.int .u64 (f 0)) ∧ w.cell? ⟨b, 1, none⟩ = some (.int .u64 (f 1)) ∧ w.cell? ⟨b, 2, none⟩ = some (.int .u64 (f 2)) ∧ w.cell? ⟨b, 3, none⟩ = some (.int .u64 (f 3)) :=
  ⟨h.cell (by omega), h.cell (by omega), h.cell (by omega), h.cell (by omega)⟩
theorem row_below {w w' : World} {b : Nat} {t : TypeId} {n : Nat} {f : Nat → Value} (h : w.rowIs b t n f) (hb : Below w.heap.size w w') : w'.rowIs b t n f :=
  h.of_block (hb.block b h.lt)
def pick4 (x0 x1 x2 x3 : Int) : Nat → Int := fun i => if i = 0 then x0 else if i = 1 then x1 else if i = 2 then x2 else x3
theorem row_set4 {w : World} {b : Nat} {t : TypeId} {f : Nat → Value} (h : w.rowIs b t 4 f) (x0 x1 x2 x3 : Int) :
    ((((w.setCell ⟨b, 0, none⟩ (.int .u64 x0)).setCell ⟨b, 1, none⟩ (.int .u64 x1)).setCell ⟨b, 2, none⟩ (.int .u64 x2)).setCell ⟨b, 3, none⟩ (.int .u64 x3)).rowIs b t 4 (u64s (pick4 x0 x1 x2 x3)) := by
  refine ((((h.set 0 _).set 1 _).set 2 _).set 3 _).congr fun i hi => ?_
  rcases k4 hi with rfl | rfl | rfl | rfl <;> rfl
theorem row_lit8 {w : World} {n : Nat} {t : TypeId} (f : Nat → Int) {x0 x1 x2 x3 x4 x5 x6 x7 : Int} (hn : n = w.heap.size) (h0 : x0 = f 0) (h1 : x1 = f 1) (h2 : x2 = f 2) (h3 : x3 = f 3) (h4 : x4 = f 4) (h5 : x5 = f 5) (h6 : x6 = f 6) (h7 : x7 = f 7) :
    (w.alloc (.cells #[.int .u64 x0, .int .u64 x1, .int .u64 x2, .int .u64 x3, .int .u64 x4, .int .u64 x5, .int .u64 x6, .int .u64 x7] t)).rowIs n t 8 (u64s f) := by
  subst hn
  refine World.rowIs_alloc w _ t _ fun i hi => ?_
  subst h0 h1 h2 h3 h4 h5 h6 h7
  rcases k8 hi with rfl | rfl | rfl | rfl | rfl | rfl | rfl | rfl <;> rfl
theorem row_cells8 {w : World} {b : Nat} {t : TypeId} {f : Nat → Int} (h : w.rowIs b t 8 (u64s f)) :
    w.cell? ⟨b, 0, none⟩ = some (.int .u64 (f 0)) ∧ w.cell? ⟨b, 1, none⟩ = some (.int .u64 (f 1)) ∧ w.cell? ⟨b, 2, none⟩ = some (.int .u64 (f 2)) ∧ w.cell? ⟨b, 3, none⟩ = some (.int .u64 (f 3)) ∧
    w.cell? ⟨b, 4, none⟩ = some (.int .u64 (f 4)) ∧ w.cell? ⟨b, 5, none⟩ = some (.int .u64 (f 5)) ∧ w.cell? ⟨b, 6, none⟩ = some (.int .u64 (f 6)) ∧ w.cell? ⟨b, 7, none⟩ = some (.int .u64 (f 7)) :=
  ⟨h.cell (by omega), h.cell (by omega), h.cell (by omega), h.cell (by omega), h.cell (by omega), h.cell (by omega), h.cell (by omega), h.cell (by omega)⟩
def pick8 (x0 x1 x2 x3 x4 x5 x6 x7 : Int) : Nat → Int := fun i => if i = 0 then x0 else if i = 1 then x1 else if i = 2 then x2 else if i = 3 then x3 else if i = 4 then x4 else if i = 5 then x5 else if i = 6 then x6 else x7
theorem row_set8 {w : World} {b : Nat} {t : TypeId} {f : Nat → Value} (h : w.rowIs b t 8 f) (x0 x1 x2 x3 x4 x5 x6 x7 : Int) :
    ((((((((w.setCell ⟨b, 0, none⟩ (.int .u64 x0)).setCell ⟨b, 1, none⟩ (.int .u64 x1)).setCell ⟨b, 2, none⟩ (.int .u64 x2)).setCell ⟨b, 3, none⟩ (.int .u64 x3)).setCell ⟨b, 4, none⟩ (.int .u64 x4)).setCell ⟨b, 5, none⟩ (.int .u64 x5)).setCell ⟨b, 6, none⟩ (.int .u64 x6)).setCell ⟨b, 7, none⟩ (.int .u64 x7)).rowIs b t 8 (u64s (pick8 x0 x1 x2 x3 x4 x5 x6 x7)) := by
  refine ((((((((h.set 0 _).set 1 _).set 2 _).set 3 _).set 4 _).set 5 _).set 6 _).set 7 _).congr fun i hi => ?_
  rcases k8 hi with rfl | rfl | rfl | rfl | rfl | rfl | rfl | rfl <;> rfl
def nats (f : Nat → Nat) : Nat → Int := fun i => (f i : Int)
theorem row_upd {w : World} {b : Nat} {t : TypeId} {n : Nat} {f : Nat → Nat} (h : w.rowIs b t n (u64s (nats f))) (p v : Nat) :
    (w.setCell ⟨b, p, none⟩ (.int .u64 (v : Int))).rowIs b t n (u64s (nats (upd f p v))) := by
  refine (h.set p _).congr fun i _ => ?_
  simp only [u64s, nats, upd]
  by_cases e : i = p <;> simp [e]
theorem bal {w w' : World} (h : Below w.heap.size w w') (o : Obj) : Below w.heap.size w (w'.alloc o) := h.alloc h.size o
theorem bcall {w W w' : World} (h : Below w.heap.size w W) (hb : Below W.heap.size W w') : Below w.heap.size w w' := h.trans (hb.mono h.size)
theorem bset {w w' : World} (h : Below w.heap.size w w') {p : Addr} (hp : w.heap.size ≤ p.block) (u : Value) : Below w.heap.size w (w'.setCell p u) := h.setCell hp u
end cin
end Go.Proofs.YtohoajjdoihekaaDoor

/-
  Numbers: comparisons and shifts of words. No program is named here.
-/
namespace Go.Proofs.YtohoajjdoihekaaDoor
namespace cin
def ltw (a b : Nat) : Bool := decide (a % M < b % M)
theorem ltw_bw (a b : Nat) : ((bw a b 4 : Int) == 1) = ltw a b := by
  unfold bw ltw M
  rw [pw4]
  split <;> rename_i h
  · rw [decide_eq_true h]; rfl
  · rw [decide_eq_false h]; rfl
/-- b shifted to the left by a -/
def shlw (a b : Nat) : Nat := if a % M < 256 then b * 2 ^ (a % M) else 0
theorem limb_zero (i : Nat) : limb 0 i = 0 := by unfold limb; simp
theorem wv_small (b : Nat) (hb : b < 18446744073709551616) : Value.agg #[.int .u64 (b : Int), .int .u64 0, .int .u64 0, .int .u64 0] = wv b := by
  have e0 : limb b 0 = (b : Int) := by unfold limb; rw [pw0]; omega
  have e1 : limb b 1 = 0 := by unfold limb; rw [pw1]; omega
  have e2 : limb b 2 = 0 := by unfold limb; rw [pw2]; omega
  have e3 : limb b 3 = 0 := by unfold limb; rw [pw3]; omega
  unfold wv
  rw [e0, e1, e2, e3]
theorem shlw_out {a : Nat} (h : ltw a 256 = false) (b : Nat) : shlw a b = 0 := by
  unfold ltw at h
  unfold shlw
  have h2 := of_decide_eq_false h
  rw [if_neg (by unfold M at *; omega)]
theorem shlw_in {a : Nat} (h : ltw a 256 = true) (b : Nat) : ∃ s : Nat, s < 256 ∧ limb a 0 = (s : Int) ∧ shlw a b = b * 2 ^ s := by
  unfold ltw at h
  have h2 := of_decide_eq_true h
  refine ⟨a % M, by unfold M at *; omega, ?_, ?_⟩
  · unfold limb M at *
    rw [pw0]
    omega
  · unfold shlw
    rw [if_pos (by unfold M at *; omega)]
theorem tb_limb (n k j : Nat) : (limbN n k).testBit j = (decide (j < 64) && n.testBit (j + 64 * k)) := by
  unfold limbN
  rw [pw64, Nat.testBit_mod_two_pow, Nat.testBit_div_two_pow]
theorem tb_mul (b s i : Nat) : (b * 2 ^ s).testBit i = (decide (s ≤ i) && b.testBit (i - s)) := by
  rw [Nat.testBit_mul_two_pow]
theorem tb_mod64 (x i : Nat) : (x % 18446744073709551616).testBit i = (decide (i < 64) && x.testBit i) := by
  rw [pw64, Nat.testBit_mod_two_pow]
theorem shl_lo (b s k : Nat) (h : k < s / 64) : limb (b * 2 ^ s) k = 0 := by
  rw [limb_eq]
  have : limbN (b * 2 ^ s) k = 0 := by
    apply Nat.eq_of_testBit_eq; intro j
    rw [tb_limb, tb_mul, Nat.zero_testBit]
    by_cases hj : j < 64
    · simp [hj, show ¬ s ≤ j + 64 * k by omega]
    · simp [hj]
  rw [this]; rfl
theorem shl_eq (b s k : Nat) (h1 : s / 64 ≤ k) (h2 : ¬ s / 64 < k) : limbN b (k - s / 64) * 2 ^ (s % 64) % 18446744073709551616 = limbN (b * 2 ^ s) k := by
  apply Nat.eq_of_testBit_eq; intro j
  rw [tb_mod64, tb_mul, tb_limb, tb_limb, tb_mul]
  by_cases hj : j < 64
  · by_cases hr : s % 64 ≤ j
    · simp [hj, hr, show s ≤ j + 64 * k by omega, show j - s % 64 < 64 by omega, show j - s % 64 + 64 * (k - s / 64) = j + 64 * k - s by omega]
    · simp [hj, hr, show ¬ s ≤ j + 64 * k by omega]
  · simp [hj]
theorem shl_hi (b s k : Nat) (h1 : s / 64 < k) : (limbN b (k - s / 64) * 2 ^ (s % 64) % 18446744073709551616) ||| (limbN b (k - s / 64 - 1) / 2 ^ (64 - s % 64)) = limbN (b * 2 ^ s) k := by
  apply Nat.eq_of_testBit_eq; intro j
  rw [Nat.testBit_or, tb_mod64, tb_mul, tb_limb, Nat.testBit_div_two_pow, tb_limb, tb_limb, tb_mul]
  by_cases hj : j < 64
  · by_cases hr : s % 64 ≤ j
    · simp [hj, hr, show s ≤ j + 64 * k by omega, show j - s % 64 < 64 by omega, show j - s % 64 + 64 * (k - s / 64) = j + 64 * k - s by omega, show ¬ j + (64 - s % 64) < 64 by omega]
    · simp [hj, hr, show s ≤ j + 64 * k by omega, show j + (64 - s % 64) < 64 by omega, show j + (64 - s % 64) + 64 * (k - s / 64 - 1) = j + 64 * k - s by omega]
  · simp [hj, show ¬ j + (64 - s % 64) < 64 by omega]
theorem shr_hi (b s k : Nat) (h1 : s / 64 ≤ k) : (limbN b k / 2 ^ (s % 64)) ||| (limbN b (k + 1) * 2 ^ (64 - s % 64) % 18446744073709551616) = limbN (b / 2 ^ s) (k - s / 64) := by
  apply Nat.eq_of_testBit_eq; intro j
  rw [Nat.testBit_or, tb_mod64, tb_mul, tb_limb, Nat.testBit_div_two_pow, tb_limb, tb_limb, Nat.testBit_div_two_pow]
  by_cases hj : j < 64
  · by_cases hr : j + s % 64 < 64
    · simp [hj, hr, show ¬ 64 - s % 64 ≤ j by omega, show j + s % 64 + 64 * k = j + 64 * (k - s / 64) + s by omega]
    · simp [hj, hr, show 64 - s % 64 ≤ j by omega, show j - (64 - s % 64) < 64 by omega, show j - (64 - s % 64) + 64 * (k + 1) = j + 64 * (k - s / 64) + s by omega]
  · simp [hj, show ¬ j + s % 64 < 64 by omega]
theorem shr_top (b s : Nat) (hb : b < M) (h : s / 64 ≤ 3) : limbN b 3 / 2 ^ (s % 64) = limbN (b / 2 ^ s) (3 - s / 64) := by
  have e := shr_hi b s 3 h
  have z : limbN b (3 + 1) = 0 := by
    unfold limbN M at *
    rw [Nat.div_eq_of_lt (by rw [show 3 + 1 = 4 from rfl, pw4]; exact hb)]
  rw [z, Nat.zero_mul, Nat.zero_mod, Nat.or_zero] at e
  exact e
theorem shr_out (b s k : Nat) (hb : b < M) (hk : 3 - s / 64 < k) : limb (b / 2 ^ s) k = 0 := by
  rw [limb_eq]
  have : limbN (b / 2 ^ s) k = 0 := by
    apply Nat.eq_of_testBit_eq; intro j
    rw [tb_limb, Nat.testBit_div_two_pow, Nat.zero_testBit]
    have h : b.testBit (j + 64 * k + s) = false := by
      apply Nat.testBit_lt_two_pow
      refine Nat.lt_of_lt_of_le hb ?_
      show 2 ^ 256 ≤ _
      exact Nat.pow_le_pow_right (by omega) (by omega)
    rw [h, Bool.and_false]
  rw [this]; rfl
theorem wrap_mul (x e : Nat) : IntKind.u64.wrap ((x : Int) * 2 ^ e) = ((x * 2 ^ e % 18446744073709551616 : Nat) : Int) := by
  rw [IntKind.wrap_u64, Int.natCast_emod, Int.natCast_mul, Int.natCast_pow]
  rfl
theorem div_pow (x e : Nat) : (x : Int) / 2 ^ e = ((x / 2 ^ e : Nat) : Int) := by
  rw [Int.natCast_ediv, Int.natCast_pow]; rfl
theorem shl_eq' (b s k : Nat) (h1 : s / 64 ≤ k) (h2 : ¬ s / 64 < k) : IntKind.u64.wrap (limb b (k - s / 64) * 2 ^ (s % 64)) = limb (b * 2 ^ s) k := by
  rw [limb_eq, limb_eq, wrap_mul, shl_eq b s k h1 h2]
theorem shl_hi' (b s k : Nat) (h1 : s / 64 < k) : bits .or .u64 (IntKind.u64.wrap (limb b (k - s / 64) * 2 ^ (s % 64))) (limb b (k - s / 64 - 1) / 2 ^ (64 - s % 64)) = limb (b * 2 ^ s) k := by
  rw [limb_eq, limb_eq, limb_eq, wrap_mul, div_pow, bits_or_u64_nat _ _ (Nat.mod_lt _ (by omega)) (Nat.lt_of_le_of_lt (Nat.div_le_self _ _) (limbN_lt _ _)), shl_hi b s k h1]
theorem shr_hi' (b s k : Nat) (h1 : s / 64 ≤ k) : bits .or .u64 (limb b k / 2 ^ (s % 64)) (IntKind.u64.wrap (limb b (k + 1) * 2 ^ (64 - s % 64))) = limb (b / 2 ^ s) (k - s / 64) := by
  rw [limb_eq, limb_eq, limb_eq, wrap_mul, div_pow, bits_or_u64_nat _ _ (Nat.lt_of_le_of_lt (Nat.div_le_self _ _) (limbN_lt _ _)) (Nat.mod_lt _ (by omega)), shr_hi b s k h1]
theorem shr_top' (b s k : Nat) (hb : b < M) (h1 : s / 64 ≤ k) (hk : k = 3) : limb b k / 2 ^ (s % 64) = limb (b / 2 ^ s) (k - s / 64) := by
  subst hk
  rw [limb_eq, limb_eq, div_pow, shr_top b s hb h1]
/-- b shifted to the right by a -/
def shrw (a b : Nat) : Nat := if a % M < 256 then b / 2 ^ (a % M) else 0
theorem shrw_out {a : Nat} (h : ltw a 256 = false) (b : Nat) : shrw a b = 0 := by
  unfold ltw at h
  unfold shrw
  have h2 := of_decide_eq_false h
  rw [if_neg (by unfold M at *; omega)]
theorem shrw_in {a : Nat} (h : ltw a 256 = true) (b : Nat) : ∃ s : Nat, s < 256 ∧ limb a 0 = (s : Int) ∧ shrw a b = b / 2 ^ s := by
  unfold ltw at h
  have h2 := of_decide_eq_true h
  refine ⟨a % M, by unfold M at *; omega, ?_, ?_⟩
  · unfold limb M at *
    rw [pw0]
    omega
  · unfold shrw
    rw [if_pos (by unfold M at *; omega)]
end cin
end Go.Proofs.YtohoajjdoihekaaDoor

/-
  Two words compared by ==: a law for the walk.
-/
namespace Go.Proofs.YtohoajjdoihekaaDoor
open Go.RowKit
namespace cin
theorem cellsU : Tryd.prog.cellsOf 56 = 1 := by kernel_rfl
theorem part0 (x0 x1 x2 x3 : Int) (w : World) : (part 56 #[.int .u64 x0, .int .u64 x1, .int .u64 x2, .int .u64 x3] 0).run Tryd.prog w = .ok (.int .u64 x0) w := by simp [part, isAgg, run_underlying Tryd.underlying56]
theorem part1 (x0 x1 x2 x3 : Int) (w : World) : (part 56 #[.int .u64 x0, .int .u64 x1, .int .u64 x2, .int .u64 x3] 1).run Tryd.prog w = .ok (.int .u64 x1) w := by simp [part, isAgg, run_underlying Tryd.underlying56]
theorem part2 (x0 x1 x2 x3 : Int) (w : World) : (part 56 #[.int .u64 x0, .int .u64 x1, .int .u64 x2, .int .u64 x3] 2).run Tryd.prog w = .ok (.int .u64 x2) w := by simp [part, isAgg, run_underlying Tryd.underlying56]
theorem part3 (x0 x1 x2 x3 : Int) (w : World) : (part 56 #[.int .u64 x0, .int .u64 x1, .int .u64 x2, .int .u64 x3] 3).run Tryd.prog w = .ok (.int .u64 x3) w := by simp [part, isAgg, run_underlying Tryd.underlying56]
theorem eqInt (x y : Int) (w : World) : (Op.equalIn 9999 56 (.int .u64 x) (.int .u64 y)).run Tryd.prog w = .ok (x == y) w := run_equalIn_int w 9998 56 .u64 .u64 x y Tryd.underlying56
theorem eq4 (x0 x1 x2 x3 y0 y1 y2 y3 : Int) (w : World) : (Op.equalIn 10000 58 (.agg #[.int .u64 x0, .int .u64 x1, .int .u64 x2, .int .u64 x3]) (.agg #[.int .u64 y0, .int .u64 y1, .int .u64 y2, .int .u64 y3])).run Tryd.prog w = .ok (x0 == y0 && (x1 == y1 && (x2 == y2 && x3 == y3))) w := by
  obtain ⟨i, hi, -⟩ := Option.map_eq_some_iff.1 (show (Tryd.prog.info? 56).map (fun i => i.size) = some 1 by kernel_rfl)
  rw [run_equalIn_array w 9999 _ _ Tryd.underlying58 hi, show List.range 4 = [0, 1, 2, 3] from rfl, cellsU]
  simp only [Op.eqItems, Sem.run_bind, Nat.mul_one, part0, part1, part2, part3, Result.andThen_ok, eqInt, Sem.run_ite, Sem.run_pure]
  cases h0 : (x0 == y0) <;> cases h1 : (x1 == y1) <;> cases h2 : (x2 == y2) <;> cases h3 : (x3 == y3) <;> rfl
def eqw (a b : Nat) : Bool := decide (a % M = b % M)
theorem eqw_limbs (a b : Nat) : (limb a 0 == limb b 0 && (limb a 1 == limb b 1 && (limb a 2 == limb b 2 && limb a 3 == limb b 3))) = eqw a b := by
  unfold eqw M
  rw [Bool.eq_iff_iff]
  simp only [Bool.and_eq_true, beq_iff_eq, decide_eq_true_eq]
  unfold limb
  rw [pw0, pw1, pw2, pw3]
  omega
/-- two words, compared -/
theorem eq_words (a b : Nat) (w : World) : (Op.equalIn 10000 58 (wv a) (wv b)).run Tryd.prog w = .ok (eqw a b) w := by
  rw [eq4, eqw_limbs]
theorem eq_zero (a : Nat) (w : World) : (Op.equalIn 10000 58 (wv a) (.agg #[.int .u64 0, .int .u64 0, .int .u64 0, .int .u64 0])).run Tryd.prog w = .ok (eqw a 0) w := by
  have e := eq_words a 0 w
  unfold wv at e ⊢
  simp only [limb_zero] at e
  exact e
theorem eqw_true {a b : Nat} (h : a = b) : eqw a b = true := by subst h; simp [eqw]
theorem eqw_false {a b : Nat} (ha : a < M) (hb : b < M) (h : a ≠ b) : eqw a b = false := by
  unfold eqw
  rw [Nat.mod_eq_of_lt ha, Nat.mod_eq_of_lt hb]
  simpa using h
end cin
end Go.Proofs.YtohoajjdoihekaaDoor

/-
  Numbers: long division, bit by bit. No program is named here.
-/
namespace Go.Proofs.YtohoajjdoihekaaDoor
namespace cin
def Qk (a b k : Nat) : Nat := a / 2 ^ k / b * 2 ^ k
def Rk (a b k : Nat) : Nat := a / 2 ^ k % b
/-- the i-th bit of a -/
def bitN (a i : Nat) : Nat := a / 2 ^ i % 2
/-- twice the rest, and the next bit -/
def dk (a b i : Nat) : Nat := 2 * Rk a b (i + 1) + bitN a i
theorem bitN_le (a i : Nat) : bitN a i ≤ 1 := by unfold bitN; omega
theorem half_step (a i : Nat) : a / 2 ^ i = 2 * (a / 2 ^ (i + 1)) + bitN a i := by
  unfold bitN
  rw [Nat.pow_succ, ← Nat.div_div_eq_div_mul]
  omega
theorem Rk_lt (a b k : Nat) (_hb : b ≠ 0) : Rk a b k < b := Nat.mod_lt _ (by omega)
theorem div_lo (a b i : Nat) (hb : b ≠ 0) (h : dk a b i < b) : Rk a b i = dk a b i ∧ Qk a b i = Qk a b (i + 1) := by
  unfold Rk Qk dk at *
  unfold Rk at *
  rw [half_step a i]
  generalize hn : a / 2 ^ (i + 1) = n at *
  have e : 2 * n + bitN a i = b * (2 * (n / b)) + (2 * (n % b) + bitN a i) := by
    have := Nat.div_add_mod n b
    rw [Nat.mul_left_comm]
    omega
  rw [e, Nat.mul_add_mod, Nat.mod_eq_of_lt h]
  refine ⟨rfl, ?_⟩
  rw [Nat.mul_add_div (by omega), Nat.div_eq_of_lt h, Nat.pow_succ, Nat.add_zero, Nat.mul_comm 2, Nat.mul_assoc, Nat.mul_comm 2]
theorem div_hi (a b i : Nat) (hb : b ≠ 0) (h : ¬ dk a b i < b) : Rk a b i = dk a b i - b ∧ Qk a b i = Qk a b (i + 1) + 2 ^ i := by
  have hl := Rk_lt a b (i + 1) hb
  have hbit := bitN_le a i
  unfold Rk Qk dk at *
  unfold Rk at *
  rw [half_step a i]
  generalize hn : a / 2 ^ (i + 1) = n at *
  have e : 2 * n + bitN a i = b * (2 * (n / b) + 1) + (2 * (n % b) + bitN a i - b) := by
    have := Nat.div_add_mod n b
    rw [Nat.mul_add, Nat.mul_left_comm]
    omega
  have h2 : 2 * (n % b) + bitN a i - b < b := by omega
  rw [e, Nat.mul_add_mod, Nat.mod_eq_of_lt h2]
  refine ⟨rfl, ?_⟩
  rw [Nat.mul_add_div (by omega), Nat.div_eq_of_lt h2, Nat.pow_succ, Nat.add_zero, Nat.add_mul, Nat.one_mul, Nat.mul_comm 2, Nat.mul_assoc, Nat.mul_comm 2]
theorem even_or_one (x : Nat) : 2 * x ||| 1 = 2 * x + 1 := by
  have := Nat.two_pow_add_eq_or_of_lt (i := 1) (b := 1) (by omega) x
  simpa using this.symm
/-- the lowest limb takes the bit up -/
theorem twice0 (R bit : Nat) (h : bit ≤ 1) : bits .or .u64 (limb (R + R) 0) (bit : Int) = limb (2 * R + bit) 0 := by
  rw [limb_eq, limb_eq, bits_or_u64_nat _ _ (limbN_lt _ _) (by omega)]
  congr 1
  unfold limbN
  rw [pw0, Nat.div_one, Nat.div_one]
  have e : (R + R) % 18446744073709551616 = 2 * (R % 9223372036854775808) := by omega
  rw [e]
  have hb : bit = 0 ∨ bit = 1 := by omega
  rcases hb with rfl | rfl
  · rw [Nat.or_zero]; omega
  · rw [even_or_one]; omega
theorem twice_j (R bit j : Nat) (h : bit ≤ 1) (hj : j < 4) (h0 : j ≠ 0) : limb (R + R) j = limb (2 * R + bit) j := by
  unfold limb
  rcases k4 hj with rfl | rfl | rfl | rfl
  · omega
  all_goals (simp only [pw1, pw2, pw3]; omega)
theorem over_below (R b bit : Nat) (h : bit ≤ 1) (hR : R < b) (hb : b < M) :
    ((cy R R 4 : Int) == 0 && (bw (2 * R + bit) b 4 : Int) == 1) = decide (2 * R + bit < b) := by
  unfold cy bw M at *
  rw [pw4]
  rw [Bool.eq_iff_iff]
  simp only [Bool.and_eq_true, beq_iff_eq, decide_eq_true_eq]
  split <;> omega
theorem cy_01 (R : Nat) : ((cy R R 4 : Int) == 0) = decide (cy R R 4 = 0) := by
  rw [Bool.eq_iff_iff]; simp
theorem sub_limbs (d b j : Nat) (hb : b < M) (h : ¬ d < b) (hj : j < 4) : limb (subw d b) j = limb (d - b) j := by
  unfold limb subw M at *
  rcases k4 hj with rfl | rfl | rfl | rfl <;> simp only [pw0, pw1, pw2, pw3] <;> omega
/-- a bit more in the quotient -/
theorem q_limb (Q i j : Nat) (hq : Q % 2 ^ (i + 1) = 0) : limbN (Q + 2 ^ i) j = if j = i / 64 then limbN Q j ||| 2 ^ (i % 64) else limbN Q j := by
  have e : Q + 2 ^ i = Q ||| 2 ^ i := by
    obtain ⟨c, hc⟩ := Nat.dvd_of_mod_eq_zero hq
    rw [hc]
    exact Nat.two_pow_add_eq_or_of_lt (Nat.pow_lt_pow_right (by omega) (by omega)) c
  rw [e]
  apply Nat.eq_of_testBit_eq; intro t
  rw [tb_limb, Nat.testBit_or, Nat.testBit_two_pow]
  split
  · rename_i hj
    rw [Nat.testBit_or, tb_limb, Nat.testBit_two_pow]
    by_cases ht : t < 64
    · simp only [ht, decide_true, Bool.true_and]
      congr 1
      rw [Bool.eq_iff_iff]
      simp only [decide_eq_true_eq]
      omega
    · have : ¬ i % 64 = t := by omega
      simp [ht, this]
  · rename_i hj
    rw [tb_limb]
    by_cases ht : t < 64
    · have : ¬ i = t + 64 * j := by omega
      simp [ht, this]
    · simp [ht]
theorem Qk_dvd (a b k : Nat) : Qk a b k % 2 ^ k = 0 := by unfold Qk; exact Nat.mul_mod_left _ _
theorem Qk_zero (a b : Nat) : Qk a b 0 = a / b := by unfold Qk; simp
theorem Rk_zero (a b : Nat) : Rk a b 0 = a % b := by unfold Rk; simp
theorem Qk_top (a b L : Nat) (h : a < 2 ^ L) : Qk a b L = 0 := by unfold Qk; rw [Nat.div_eq_of_lt h, Nat.zero_div, Nat.zero_mul]
theorem Rk_top (a b L : Nat) (h : a < 2 ^ L) : Rk a b L = 0 := by unfold Rk; rw [Nat.div_eq_of_lt h, Nat.zero_mod]
end cin
end Go.Proofs.YtohoajjdoihekaaDoor

/-
  Numbers: what each operation on words gives. No program is named here.
-/
namespace Go.Proofs.YtohoajjdoihekaaDoor
namespace cin
theorem limb_mod (n i : Nat) (hi : i < 4) : limb (n % M) i = limb n i := by
  unfold limb M
  rcases k4 hi with rfl | rfl | rfl | rfl <;> simp only [pw0, pw1, pw2, pw3] <;> omega
theorem wv_mod (n : Nat) : wv (n % M) = wv n := by
  unfold wv
  rw [limb_mod n 0 (by omega), limb_mod n 1 (by omega), limb_mod n 2 (by omega), limb_mod n 3 (by omega)]
theorem wv_congr {m n : Nat} (h : m % M = n % M) : wv m = wv n := by rw [← wv_mod m, ← wv_mod n, h]
def fadd (a b : Nat) : Nat := (a + b) % M
def fsub (a b : Nat) : Nat := (a + (M - b)) % M
def fmul (a b : Nat) : Nat := a * b % M
def fdiv (a b : Nat) : Nat := a / b
def fmod (a b : Nat) : Nat := if b = 0 then 0 else a % b
def fneg (a : Nat) : Nat := (M - a) % M
def fmag (a : Nat) : Nat := if neg a then fneg a else a
def fsdiv (a b : Nat) : Nat := if neg a != neg b then fneg (fdiv (fmag a) (fmag b)) else fdiv (fmag a) (fmag b)
def fsmod (a b : Nat) : Nat := if neg a then fneg (fmod (fmag a) (fmag b)) else fmod (fmag a) (fmag b)
def faddmod (a b c : Nat) : Nat := fmod (a + b) c
def fmulmod (a b c : Nat) : Nat := fmod (a * b) c
def fexp (a b : Nat) : Nat := a ^ b % M
def fnot (a : Nat) : Nat := M - 1 - a
def fshl (a b : Nat) : Nat := if a < 256 then b * 2 ^ a % M else 0
def fshr (a b : Nat) : Nat := if a < 256 then b / 2 ^ a else 0
def fsar (a b : Nat) : Nat := if neg b then fnot (fshr a (fnot b)) else fshr a b
def fsext (a b : Nat) : Nat := if a < 31 then fsar (248 - 8 * a) (fshl (248 - 8 * a) b) else b
def fbyte (a b : Nat) : Nat := if a < 32 then fshr (8 * (31 - a)) b % 256 else 0
def fslt (a b : Nat) : Bool := if neg a != neg b then neg a else decide (a < b)
def ftruth (h : Bool) : Nat := if h then 1 else 0
theorem Mpos : 0 < M := by unfold M; omega
theorem fadd_lt (a b : Nat) : fadd a b < M := Nat.mod_lt _ Mpos
theorem fsub_lt (a b : Nat) : fsub a b < M := Nat.mod_lt _ Mpos
theorem fmul_lt (a b : Nat) : fmul a b < M := Nat.mod_lt _ Mpos
theorem fneg_lt (a : Nat) : fneg a < M := Nat.mod_lt _ Mpos
theorem fdiv_lt (a b : Nat) (ha : a < M) : fdiv a b < M := Nat.lt_of_le_of_lt (Nat.div_le_self _ _) ha
theorem fmod_lt (a b : Nat) (hb : b < M) : fmod a b < M := by
  unfold fmod; split
  · exact Mpos
  · exact Nat.lt_trans (Nat.mod_lt _ (by omega)) hb
theorem fmag_lt (a : Nat) (ha : a < M) : fmag a < M := by unfold fmag; split; exact fneg_lt a; exact ha
theorem fexp_lt (a b : Nat) : fexp a b < M := Nat.mod_lt _ Mpos
theorem fnot_lt (a : Nat) : fnot a < M := by unfold fnot M; omega
theorem fshl_lt (a b : Nat) : fshl a b < M := by unfold fshl; split; exact Nat.mod_lt _ Mpos; exact Mpos
theorem fshr_lt (a b : Nat) (hb : b < M) : fshr a b < M := by
  unfold fshr; split
  · exact Nat.lt_of_le_of_lt (Nat.div_le_self _ _) hb
  · exact Mpos
theorem fsdiv_lt (a b : Nat) (ha : a < M) : fsdiv a b < M := by
  unfold fsdiv; split
  · exact fneg_lt _
  · exact fdiv_lt _ _ (fmag_lt a ha)
theorem fsmod_lt (a b : Nat) (hb : b < M) : fsmod a b < M := by
  unfold fsmod; split
  · exact fneg_lt _
  · exact fmod_lt _ _ (fmag_lt b hb)
theorem fsar_lt (a b : Nat) (hb : b < M) : fsar a b < M := by unfold fsar; split; exact fnot_lt _; exact fshr_lt a b hb
theorem fsext_lt (a b : Nat) (hb : b < M) : fsext a b < M := by unfold fsext; split; exact fsar_lt _ _ (fshl_lt _ _); exact hb
theorem fbyte_lt (a b : Nat) : fbyte a b < M := by unfold fbyte M; split <;> omega
theorem ftruth_lt (h : Bool) : ftruth h < M := by unfold ftruth M; split <;> omega
theorem subw_eq (a b : Nat) (hb : b < M) : subw a b % M = fsub a b := by
  unfold subw fsub
  rw [Nat.mod_eq_of_lt hb, Nat.add_sub_assoc (Nat.le_of_lt hb)]
theorem ltw_eq (a b : Nat) (ha : a < M) (hb : b < M) : ltw a b = decide (a < b) := by
  unfold ltw; rw [Nat.mod_eq_of_lt ha, Nat.mod_eq_of_lt hb]
theorem prodw_eq (a b : Nat) (ha : a < M) (hb : b < M) : prodw a b = a * b := by
  unfold prodw; rw [Nat.mod_eq_of_lt ha, Nat.mod_eq_of_lt hb]
theorem notw_eq (a : Nat) (ha : a < M) : notw a = fnot a := by
  unfold notw fnot; rw [Nat.mod_eq_of_lt ha]
theorem shlw_eq (a b : Nat) (ha : a < M) : shlw a b % M = fshl a b := by
  unfold shlw fshl; rw [Nat.mod_eq_of_lt ha]; split; rfl; rfl
theorem shrw_eq (a b : Nat) (ha : a < M) : shrw a b = fshr a b := by
  unfold shrw fshr; rw [Nat.mod_eq_of_lt ha]
theorem and_lt (a b : Nat) (ha : a < M) : a &&& b < M := Nat.lt_of_le_of_lt Nat.and_le_left ha
theorem M_pow : M = 2 ^ 256 := rfl
theorem or_lt (a b : Nat) (ha : a < M) (hb : b < M) : a ||| b < M := by rw [M_pow] at *; exact Nat.or_lt_two_pow ha hb
theorem xor_lt (a b : Nat) (ha : a < M) (hb : b < M) : a ^^^ b < M := by rw [M_pow] at *; exact Nat.xor_lt_two_pow ha hb
end cin
end Go.Proofs.YtohoajjdoihekaaDoor

/-
  Numbers: the laws of reckoning, of words below 2 to the 256. No program is named here.
-/
namespace Go.Proofs.YtohoajjdoihekaaDoor
namespace cin
theorem rk_sub (a b : Nat) (ha : a < M) (hb : b < M) : fsub (fadd a b) b = a := by
  unfold fsub fadd M at *
  omega
theorem rk_dist (a b c : Nat) : fmul a (fadd b c) = fadd (fmul a b) (fmul a c) := by
  unfold fmul fadd
  rw [Nat.mul_mod_mod, Nat.mul_add, ← Nat.add_mod]
theorem rk_not (a : Nat) (ha : a < M) : fadd a (fnot a) = fnot 0 := by
  unfold fadd fnot M at *
  omega
theorem rk_div0 (a : Nat) : fdiv a 0 = 0 := Nat.div_zero a
theorem rk_mod0 (a : Nat) : fmod a 0 = 0 := rfl
theorem neg_zero : neg 0 = false := by unfold neg M; decide
theorem fmag_zero : fmag 0 = 0 := by unfold fmag; rw [neg_zero]; rfl
theorem fneg_zero : fneg 0 = 0 := by unfold fneg M; omega
theorem rk_sdiv0 (a : Nat) : fsdiv a 0 = 0 := by
  unfold fsdiv
  rw [fmag_zero, rk_div0, fneg_zero]
  split <;> rfl
theorem rk_smod0 (a : Nat) : fsmod a 0 = 0 := by
  unfold fsmod
  rw [fmag_zero, rk_mod0, fneg_zero]
  split <;> rfl
theorem rk_modlt (a b : Nat) (h : b ≠ 0) : fmod a b < b := by
  unfold fmod; rw [if_neg h]; exact Nat.mod_lt _ (by omega)
theorem rk_qr (a b : Nat) (ha : a < M) (h : b ≠ 0) : fadd (fmul (fdiv a b) b) (fmod a b) = a := by
  unfold fadd fmul fdiv fmod
  rw [if_neg h, Nat.mod_add_mod, Nat.mul_comm, Nat.div_add_mod, Nat.mod_eq_of_lt ha]
theorem rk_expS (a k : Nat) : fexp a (k + 1) = fmul a (fexp a k) := by
  unfold fexp fmul
  rw [Nat.pow_succ, Nat.mul_mod_mod, Nat.mul_comm]
theorem pow_lt (k : Nat) (hk : k < 200) : 2 ^ k < M := by rw [M_pow]; exact Nat.pow_lt_pow_right (by omega) (by omega)
theorem rk_exp2 (k : Nat) (hk : k < 200) : fexp 2 k = 2 ^ k := by unfold fexp; exact Nat.mod_eq_of_lt (pow_lt k hk)
theorem rk_shl (a k : Nat) (hk : k < 200) : fshl k a = fmul a (fexp 2 k) := by
  rw [rk_exp2 k hk]; unfold fshl fmul; rw [if_pos (by omega)]
theorem rk_shr (a k : Nat) (hk : k < 200) : fshr k a = fdiv a (fexp 2 k) := by
  rw [rk_exp2 k hk]; unfold fshr fdiv; rw [if_pos (by omega)]
theorem rk_xor (a b : Nat) : (a &&& b) ^^^ (a ||| b) = a ^^^ b := by
  apply Nat.eq_of_testBit_eq; intro i
  simp only [Nat.testBit_xor, Nat.testBit_and, Nat.testBit_or]
  cases a.testBit i <;> cases b.testBit i <;> rfl
theorem rk_truth (t : Bool) : ftruth (decide (ftruth t = 0)) ≠ ftruth t := by cases t <;> decide
theorem rk_00 : fexp 0 0 = 1 := by unfold fexp M; decide
theorem rk_addmod1 (a b : Nat) : faddmod a b 1 = 0 := by unfold faddmod fmod; rw [if_neg (by omega), Nat.mod_one]
theorem rk_addmod (a b k : Nat) (hk : k ≠ 0) : faddmod a b k = faddmod (fmod a k) (fmod b k) k := by
  unfold faddmod fmod
  rw [if_neg hk, if_neg hk, if_neg hk, if_neg hk, ← Nat.add_mod]
theorem rk_mulmod (a b k : Nat) (hk : k ≠ 0) : fmulmod a b k = fmulmod (fmod a k) (fmod b k) k := by
  unfold fmulmod fmod
  rw [if_neg hk, if_neg hk, if_neg hk, if_neg hk, ← Nat.mul_mod]
/-- signed: a number out of its sign and its size -/
theorem mag_neg (a : Nat) (ha : a < M) (h : neg a = true) : fmag a = M - a ∧ 0 < a := by
  unfold neg at h
  have h2 := of_decide_eq_true h
  unfold fmag fneg
  rw [show neg a = true from h, if_pos rfl]
  unfold M at *
  omega
theorem mag_pos (a : Nat) (h : neg a = false) : fmag a = a := by unfold fmag; rw [h]; rfl
theorem fneg_int (q : Nat) (hq : q ≤ M) : ∃ e : Int, (fneg q : Int) = e * (M : Int) - q := by
  unfold fneg
  by_cases h : q = 0
  · subst h
    exact ⟨0, by rw [Nat.sub_zero, Nat.mod_self]; simp⟩
  · refine ⟨1, ?_⟩
    rw [Nat.mod_eq_of_lt (by omega)]
    omega
theorem fadd_of (s b t a : Nat) (ha : a < M) (c : Int) (h : (s : Int) * b + t = a + c * (M : Int)) : fadd (fmul s b) t = a := by
  unfold fadd fmul
  rw [Nat.mod_add_mod]
  have h1 : ((s * b + t : Nat) : Int) % (M : Int) = (a : Int) := by
    rw [Int.natCast_add, Int.natCast_mul, h, Int.add_mul_emod_self_right, Int.emod_eq_of_lt (by omega) (by omega)]
  omega
theorem rk_sqr (a b : Nat) (ha : a < M) (hb : b < M) (h : b ≠ 0) : fadd (fmul (fsdiv a b) b) (fsmod a b) = a := by
  have hA : fmag a ≤ M := Nat.le_of_lt (fmag_lt a ha)
  have hB : fmag b ≠ 0 := by
    cases hn : neg b
    · rw [mag_pos b hn]; exact h
    · have := mag_neg b hb hn; omega
  have hQ : fdiv (fmag a) (fmag b) ≤ M := Nat.le_trans (Nat.div_le_self _ _) hA
  have hR : fmod (fmag a) (fmag b) ≤ M := by unfold fmod; rw [if_neg hB]; exact Nat.le_trans (Nat.mod_le _ _) hA
  have hD : (fmag a : Int) = (fdiv (fmag a) (fmag b) : Int) * (fmag b : Int) + (fmod (fmag a) (fmag b) : Int) := by
    unfold fdiv fmod
    rw [if_neg hB, ← Int.natCast_mul, ← Int.natCast_add, Nat.mul_comm, Nat.div_add_mod]
  unfold fsdiv fsmod
  obtain ⟨e, he⟩ := fneg_int _ hQ
  obtain ⟨f, hf⟩ := fneg_int _ hR
  generalize fdiv (fmag a) (fmag b) = q at *
  generalize fmod (fmag a) (fmag b) = r at *
  cases hna : neg a <;> cases hnb : neg b
  · have h1 := mag_pos a hna
    have h2 := mag_pos b hnb
    rw [h1, h2] at hD
    rw [if_neg (by decide), if_neg (by decide)]
    exact fadd_of q b r a ha 0 (by omega)
  · have h1 := mag_pos a hna
    obtain ⟨h2, _⟩ := mag_neg b hb hnb
    have h2' : (fmag b : Int) = (M : Int) - b := by omega
    rw [h1, h2'] at hD
    rw [if_pos (by decide), if_neg (by decide)]
    refine fadd_of (fneg q) b r a ha (e * b - q) ?_
    rw [he, hD]
    grind
  · obtain ⟨h1, _⟩ := mag_neg a ha hna
    have h1' : (fmag a : Int) = (M : Int) - a := by omega
    have h2 := mag_pos b hnb
    rw [h1', h2] at hD
    rw [if_pos (by decide), if_pos rfl]
    refine fadd_of (fneg q) b (fneg r) a ha (e * b + f - 1) ?_
    rw [he, hf]
    grind
  · obtain ⟨h1, _⟩ := mag_neg a ha hna
    have h1' : (fmag a : Int) = (M : Int) - a := by omega
    obtain ⟨h2, _⟩ := mag_neg b hb hnb
    have h2' : (fmag b : Int) = (M : Int) - b := by omega
    rw [h1', h2'] at hD
    rw [if_neg (by decide), if_pos rfl]
    refine fadd_of q b (fneg r) a ha (f + q - 1) ?_
    rw [hf]
    grind
end cin
end Go.Proofs.YtohoajjdoihekaaDoor

/-
  Numbers as rows of bits: limbs and bits, sums bit by bit with their carry, long division, powers by squaring. No call is walked here.
-/
namespace Go.Proofs.YtohoajjdoihekaaDoor
open Go.RowKit
namespace cin
/-- bits of a limb -/
theorem bit_div (n j : Nat) : n.testBit j = decide (n / 2 ^ j % 2 = 1) := by rw [Nat.testBit_eq_decide_div_mod_eq]
def lb (n i : Nat) : Nat := n / 2 ^ (64 * i) % 18446744073709551616
theorem limb_lb (n i : Nat) : limb n i = (lb n i : Int) := rfl
theorem lb_bit (n i k : Nat) (hk : k < 64) : lb n i / 2 ^ k % 2 = n / 2 ^ (64 * i + k) % 2 := by
  have h1 := Nat.testBit_eq_decide_div_mod_eq (x := lb n i) (i := k)
  have h2 := Nat.testBit_eq_decide_div_mod_eq (x := n) (i := 64 * i + k)
  have h : (lb n i).testBit k = n.testBit (64 * i + k) := by
    unfold lb
    rw [pw64, Nat.testBit_mod_two_pow, Nat.testBit_div_two_pow, decide_eq_true hk, Bool.true_and]
    congr 1; omega
  rw [h1, h2] at h
  have a1 := Nat.mod_two_eq_zero_or_one (lb n i / 2 ^ k)
  have a2 := Nat.mod_two_eq_zero_or_one (n / 2 ^ (64 * i + k))
  rcases a1 with a1 | a1 <;> rcases a2 with a2 | a2 <;> simp [a1, a2] at h <;> omega
theorem lb_testBit (n i k : Nat) (hk : k < 64) : decide (lb n i / 2 ^ k % 2 = 1) = n.testBit (64 * i + k) := by
  rw [bit_div, lb_bit n i k hk]
theorem div_two (x k : Nat) : x / 2 ^ k / 2 = x / 2 ^ (k + 1) := by rw [Nat.div_div_eq_div_mul, Nat.pow_succ]
/-- from the highest bit down: twice, and the next bit -/
theorem div_step (x k : Nat) : x / 2 ^ k = 2 * (x / 2 ^ (k + 1)) + (if x.testBit k then 1 else 0) := by
  rw [bit_div, ← div_two]
  have := Nat.mod_two_eq_zero_or_one (x / 2 ^ k)
  rcases this with h | h <;> simp [h] <;> omega
theorem lb_lt (n i : Nat) : lb n i < 18446744073709551616 := Nat.mod_lt _ (by decide)
theorem lb_top (n i : Nat) : lb n i / 2 ^ 64 = 0 := Nat.div_eq_of_lt (lb_lt n i)
theorem lb_step (n i k : Nat) (hk : k < 64) : lb n i / 2 ^ k = 2 * (lb n i / 2 ^ (k + 1)) + (if n.testBit (64 * i + k) then 1 else 0) := by
  rw [div_step, bit_div, lb_testBit n i k hk]
theorem tb_high {n L j : Nat} (h : n < 2 ^ L) (hj : L ≤ j) : n.testBit j = false := Nat.testBit_lt_two_pow (Nat.lt_of_lt_of_le h (Nat.pow_le_pow_right (by decide) hj))
/-- the carry into bit i -/
def cb (x y i : Nat) : Bool := decide (2 ^ i ≤ x % 2 ^ i + y % 2 ^ i)
theorem cb0 (x y : Nat) : cb x y 0 = false := by simp [cb, Nat.mod_one]
theorem mod_succ2 (x i : Nat) : x % 2 ^ (i + 1) = x % 2 ^ i + (if x.testBit i then 2 ^ i else 0) := by
  have hp : 0 < 2 ^ i := Nat.two_pow_pos i
  have h := Nat.div_add_mod x (2 ^ i)
  have hl := Nat.mod_lt x hp
  have hd : x % 2 ^ (i + 1) = x % 2 ^ i + 2 ^ i * (x / 2 ^ i % 2) := by rw [Nat.pow_succ, Nat.mod_mul]
  rw [hd, bit_div]
  have := Nat.mod_two_eq_zero_or_one (x / 2 ^ i)
  rcases this with h | h <;> simp [h]
theorem cb_div (x y i : Nat) : (x + y) / 2 ^ i = x / 2 ^ i + y / 2 ^ i + (if cb x y i then 1 else 0) := by
  have hp : 0 < 2 ^ i := Nat.two_pow_pos i
  have h1 := Nat.div_add_mod x (2 ^ i)
  have h2 := Nat.div_add_mod y (2 ^ i)
  have l1 := Nat.mod_lt x hp
  have l2 := Nat.mod_lt y hp
  have e : x + y = 2 ^ i * (x / 2 ^ i + y / 2 ^ i) + (x % 2 ^ i + y % 2 ^ i) := by rw [Nat.mul_add]; omega
  unfold cb
  rw [e, Nat.mul_add_div hp]
  clear e h1 h2
  by_cases h : 2 ^ i ≤ x % 2 ^ i + y % 2 ^ i
  · rw [decide_eq_true h, if_pos rfl]
    have : (x % 2 ^ i + y % 2 ^ i) / 2 ^ i = 1 := by
      rw [Nat.div_eq_iff hp]; omega
    omega
  · rw [decide_eq_false h]
    rw [Nat.div_eq_of_lt (Nat.lt_of_not_le h)]; simp
theorem cb_sum (x y i : Nat) : (x + y).testBit i = ((x.testBit i != y.testBit i) != cb x y i) := by
  have h := cb_div x y i
  rw [bit_div (x + y), bit_div x, bit_div y, h]
  have h1 := Nat.mod_two_eq_zero_or_one (x / 2 ^ i)
  have h2 := Nat.mod_two_eq_zero_or_one (y / 2 ^ i)
  cases cb x y i <;> rcases h1 with h1 | h1 <;> rcases h2 with h2 | h2 <;> simp [h1, h2] <;> omega
theorem cb_next (x y i : Nat) : cb x y (i + 1) = ((x.testBit i && y.testBit i) || (x.testBit i && cb x y i) || (y.testBit i && cb x y i)) := by
  have hp : 0 < 2 ^ i := Nat.two_pow_pos i
  have l1 := Nat.mod_lt x hp
  have l2 := Nat.mod_lt y hp
  unfold cb
  rw [mod_succ2, mod_succ2, Nat.pow_succ]
  by_cases h : 2 ^ i ≤ x % 2 ^ i + y % 2 ^ i <;> cases x.testBit i <;> cases y.testBit i <;> simp [h] <;> omega
theorem cb_top (x y i : Nat) (hx : x < 2 ^ i) (hy : y < 2 ^ i) : cb x y i = (x + y).testBit i := by
  rw [cb_sum, tb_high hx (Nat.le_refl _), tb_high hy (Nat.le_refl _)]; simp
/-- behind the last carry the number is as it was -/
theorem cb_rest (o x p j : Nat) (hx : x < 2 ^ p) (hc : cb o x p = false) (hj : p ≤ j) : (o + x).testBit j = o.testBit j := by
  have h := cb_div o x p
  rw [hc, Nat.div_eq_of_lt hx] at h
  have e : (o + x) / 2 ^ p = o / 2 ^ p := by simpa using h
  have t := congrArg (fun n => Nat.testBit n (j - p)) e
  simp only [Nat.testBit_div_two_pow] at t
  rwa [show j - p + p = j by omega] at t
/-- long division, a bit more -/
theorem div_bit (n b i : Nat) (hb : 0 < b) :
    let r := 2 * (n / 2 ^ (i + 1) % b) + (if n.testBit i then 1 else 0)
    (n / b).testBit i = decide (b ≤ r) ∧ n / 2 ^ i % b = (if b ≤ r then r - b else r) ∧ r < 2 * b := by
  intro r
  have hs := div_step n i
  have hm : n / 2 ^ (i + 1) % b < b := Nat.mod_lt _ hb
  have hd := Nat.div_add_mod (n / 2 ^ (i + 1)) b
  obtain ⟨t, ht, ht1⟩ : ∃ t, t = (if n.testBit i then 1 else 0) ∧ t ≤ 1 := ⟨_, rfl, by split <;> omega⟩
  have hr : r = 2 * (n / 2 ^ (i + 1) % b) + t := by rw [ht]
  have hr2 : r < 2 * b := by omega
  have e : n / 2 ^ i = b * (2 * (n / 2 ^ (i + 1) / b)) + r := by
    rw [hs, ← ht, hr]
    have : b * (2 * (n / 2 ^ (i + 1) / b)) = 2 * (b * (n / 2 ^ (i + 1) / b)) := by rw [Nat.mul_left_comm]
    omega
  have q : (n / b) / 2 ^ i = 2 * (n / 2 ^ (i + 1) / b) + r / b := by
    rw [Nat.div_div_eq_div_mul, Nat.mul_comm, ← Nat.div_div_eq_div_mul, e, Nat.mul_add_div hb]
  have m : n / 2 ^ i % b = r % b := by rw [e, Nat.mul_add_mod]
  refine ⟨?_, ?_, hr2⟩
  · rw [bit_div, q]
    by_cases h : b ≤ r
    · have : r / b = 1 := by rw [Nat.div_eq_iff hb]; omega
      rw [this, decide_eq_true h]; simp
    · rw [Nat.div_eq_of_lt (Nat.lt_of_not_le h), decide_eq_false h]; simp
  · rw [m]
    by_cases h : b ≤ r
    · rw [if_pos h, Nat.mod_eq_sub_mod h, Nat.mod_eq_of_lt (by omega)]
    · rw [if_neg h, Nat.mod_eq_of_lt (Nat.lt_of_not_le h)]
/-- powers by squaring, from the highest bit -/
theorem pow_bit (a b i : Nat) : a ^ (b / 2 ^ i) = (a ^ (b / 2 ^ (i + 1)) * a ^ (b / 2 ^ (i + 1))) * (if b.testBit i then a else 1) := by
  have hs := div_step b i
  rw [hs]
  cases b.testBit i
  · simp [Nat.two_mul, Nat.pow_add]
  · simp [Nat.two_mul, Nat.pow_add, Nat.pow_succ]
end cin
end Go.Proofs.YtohoajjdoihekaaDoor

namespace Go.Proofs.YtohoajjdoihekaaDoor
open Go.RowKit
namespace cin
theorem tbM (n i : Nat) : (n % M).testBit i = (decide (i < 256) && n.testBit i) := by
  show (n % 2 ^ 256).testBit i = _
  rw [Nat.testBit_mod_two_pow]
theorem tb_hiM {n i : Nat} (h : n < M) (hi : 256 ≤ i) : n.testBit i = false := tb_high (L := 256) h hi
theorem fshl_bit (a b i : Nat) (ha : a < 256) (hi : i < 256) : (fshl a b).testBit i = (decide (a ≤ i) && b.testBit (i - a)) := by
  unfold fshl
  rw [if_pos ha, tbM, decide_eq_true hi, Bool.true_and, Nat.testBit_mul_two_pow]
theorem fshr_bit (a b i : Nat) (ha : a < 256) : (fshr a b).testBit i = b.testBit (i + a) := by
  unfold fshr
  rw [if_pos ha, Nat.testBit_div_two_pow]
theorem fnot_bit (a i : Nat) (ha : a < M) (hi : i < 256) : (fnot a).testBit i = !a.testBit i := by
  unfold fnot
  have e : M - 1 - a = 2 ^ 256 - (a + 1) := by show 2 ^ 256 - 1 - a = _; omega
  rw [e, Nat.testBit_two_pow_sub_succ ha, decide_eq_true hi, Bool.true_and]
theorem neg_bit (b : Nat) (hb : b < M) : neg b = b.testBit 255 := by
  have h : b.testBit 255 = decide (b / 2 ^ 255 % 2 = 1) := bit_div b 255
  rw [h]
  have e : (2 : Nat) ^ 255 = 57896044618658097711785492504343953926634992332820282019728792003956564819968 := by decide
  rw [e]
  unfold neg M at *
  rw [Nat.mod_eq_of_lt hb, Bool.eq_iff_iff]
  simp only [decide_eq_true_eq]
  omega
/-- bit i of the number b moved up by n (down, if n is below 0), with fill where there was nothing -/
def shb (b : Nat) (n : Int) (fill : Bool) (i : Nat) : Bool := if 0 ≤ (i : Int) - n ∧ (i : Int) - n < 256 then b.testBit ((i : Int) - n).toNat else fill
theorem fint_lt {a m : Nat} (ha : a < M) (h : a < m) : (if a % M < m then a % M else m) = a := by rw [Nat.mod_eq_of_lt ha, if_pos h]
theorem shl_bits (a b i : Nat) (hb : b < M) (hi : i < 256) : (fshl a b).testBit i = shb b ((if a < 256 then a else 256 : Nat) : Int) false i := by
  by_cases ha : a < 256
  · rw [fshl_bit a b i ha hi, if_pos ha]
    unfold shb
    by_cases h : a ≤ i
    · rw [decide_eq_true h, if_pos (by omega), Bool.true_and]; congr 1; omega
    · rw [decide_eq_false h, if_neg (by omega), Bool.false_and]
  · unfold fshl shb
    rw [if_neg ha, if_neg ha, if_neg (by omega), Nat.zero_testBit]
theorem shr_bits (a b i : Nat) (hb : b < M) (hi : i < 256) : (fshr a b).testBit i = shb b (-((if a < 256 then a else 256 : Nat) : Int)) false i := by
  by_cases ha : a < 256
  · rw [fshr_bit a b i ha, if_pos ha]
    unfold shb
    by_cases h : i + a < 256
    · rw [if_pos (by omega)]; congr 1; omega
    · rw [if_neg (by omega)]; exact tb_hiM hb (by omega)
  · unfold fshr shb
    rw [if_neg ha, if_neg ha, if_neg (by omega), Nat.zero_testBit]
theorem sar_bits (a b i : Nat) (hb : b < M) (hi : i < 256) : (fsar a b).testBit i = shb b (-((if a < 256 then a else 256 : Nat) : Int)) (b.testBit 255) i := by
  unfold fsar
  rw [neg_bit b hb]
  cases h : b.testBit 255
  · rw [if_neg (by decide), shr_bits a b i hb hi]
  · rw [if_pos rfl]
    have hn : fnot b < M := by unfold fnot; unfold M at *; omega
    rw [fnot_bit _ i (fshr_lt a _ hn) hi, shr_bits a _ i hn hi]
    unfold shb
    by_cases hc : 0 ≤ (i : Int) - -((if a < 256 then a else 256 : Nat) : Int) ∧ (i : Int) - -((if a < 256 then a else 256 : Nat) : Int) < 256
    · rw [if_pos hc, if_pos hc, fnot_bit b _ hb (by omega), Bool.not_not]
    · rw [if_neg hc, if_neg hc]; rfl
theorem byte_bits (a b i : Nat) (ha : a < 32) (hb : b < M) (hi : i < 256) : (fbyte a b).testBit i = (decide (i < 8) && b.testBit (8 * (31 - a) + i)) := by
  unfold fbyte
  rw [if_pos ha, show (256 : Nat) = 2 ^ 8 from rfl, Nat.testBit_mod_two_pow, fshr_bit _ _ _ (by omega), Nat.add_comm i]
theorem sext_bits (a b i : Nat) (ha : a < 31) (hb : b < M) (hi : i < 256) : (fsext a b).testBit i = if i < 8 * a + 8 then b.testBit i else b.testBit (8 * a + 7) := by
  have hl : fshl (248 - 8 * a) b < M := by unfold fshl; rw [if_pos (by omega)]; exact Nat.mod_lt _ Mpos
  unfold fsext
  rw [if_pos ha, sar_bits _ _ i hl hi, if_pos (by omega : 248 - 8 * a < 256), fshl_bit _ _ 255 (by omega) (by omega), decide_eq_true (by omega), Bool.true_and]
  unfold shb
  by_cases h : i < 8 * a + 8
  · rw [if_pos (by omega), if_pos h, fshl_bit _ _ _ (by omega) (by omega), decide_eq_true (by omega), Bool.true_and]; congr 1; omega
  · rw [if_neg (by omega), if_neg h]; congr 1; omega
theorem slt_num (a b : Nat) (ha : a < M) (hb : b < M) : ltw (fadd a 57896044618658097711785492504343953926634992332820282019728792003956564819968) (fadd b 57896044618658097711785492504343953926634992332820282019728792003956564819968) = fslt a b := by
  unfold ltw fadd fslt neg M at *
  rw [Nat.mod_eq_of_lt ha, Nat.mod_eq_of_lt hb]
  by_cases h1 : 57896044618658097711785492504343953926634992332820282019728792003956564819968 ≤ a <;> by_cases h2 : 57896044618658097711785492504343953926634992332820282019728792003956564819968 ≤ b <;> simp [h1, h2] <;> omega
end cin
end Go.Proofs.YtohoajjdoihekaaDoor
