/-
  The walks of math/bits.Mul64 (its own Go text), of mulAdd, and of product: all 512 bits of a product.
-/
import Derived.Test.YtohoajjdoihekaaDoorWa
import Derived.Lib.Mul64
set_option linter.unusedVariables false
set_option linter.unusedSimpArgs false
namespace Go.Proofs.YtohoajjdoihekaaDoor
open Go.RowKit
namespace cin
theorem maskN (a : Nat) (ha : a < 18446744073709551616) : bits .and .u64 (a : Int) 4294967295 = ((a % 4294967296 : Nat) : Int) := by
  have h := bits_and_u64_nat a 4294967295 ha (by omega)
  have e : a &&& 4294967295 = a % 4294967296 := Nat.and_two_pow_sub_one_eq_mod a 32
  rw [e] at h
  exact h
theorem divN (a : Nat) : (a : Int) / 4294967296 = ((a / 4294967296 : Nat) : Int) := by omega
theorem mulN (a b : Nat) : (a : Int) * (b : Int) = ((a * b : Nat) : Int) := (Int.natCast_mul a b).symm
theorem addN (a b : Nat) : (a : Int) + (b : Int) = ((a + b : Nat) : Int) := (Int.natCast_add a b).symm
theorem wrapN (a : Nat) (ha : a < 18446744073709551616) : IntKind.u64.wrap (a : Int) = (a : Int) := by rw [IntKind.wrap_u64]; omega
theorem wrapM (a : Nat) : IntKind.u64.wrap (a : Int) = ((a % 18446744073709551616 : Nat) : Int) := by rw [IntKind.wrap_u64]; omega
set_option maxHeartbeats 1000000 in
theorem mul64_any (x y : Nat) (hx : x < 18446744073709551616) (hy : y < 18446744073709551616) (w : World) :
    Calls Tryd.prog 50 #[.int .u64 x, .int .u64 y] w fun e w' => e = .returned (.tuple #[.int .u64 ((x * y / 18446744073709551616 : Nat) : Int), .int .u64 ((x * y % 18446744073709551616 : Nat) : Int)]) ∧ w' = w := by
  obtain ⟨bd, bt, bw, hhi⟩ := Lib.mul64_hi x y hx hy
  have ba := Lib.half_mul_le (a := x / 4294967296) (b := y / 4294967296) (by omega) (by omega)
  have bb := Lib.half_mul_le (a := x / 4294967296) (b := y % 4294967296) (by omega) (by omega)
  have bc := Lib.half_mul_le (a := x % 4294967296) (b := y / 4294967296) (by omega) (by omega)
  have ba' : x / 4294967296 * (y / 4294967296) < 18446744073709551616 := by omega
  have bb' : x / 4294967296 * (y % 4294967296) < 18446744073709551616 := by omega
  have bc' : x % 4294967296 * (y / 4294967296) < 18446744073709551616 := by omega
  have bh1 : x / 4294967296 * (y / 4294967296) + (x / 4294967296 * (y % 4294967296) + x % 4294967296 * (y % 4294967296) / 4294967296) / 4294967296 < 18446744073709551616 := by omega
  have bh : x / 4294967296 * (y / 4294967296) + (x / 4294967296 * (y % 4294967296) + x % 4294967296 * (y % 4294967296) / 4294967296) / 4294967296 + ((x / 4294967296 * (y % 4294967296) + x % 4294967296 * (y % 4294967296) / 4294967296) % 4294967296 + x % 4294967296 * (y / 4294967296)) / 4294967296 < 18446744073709551616 := by omega
  go_enter Tryd.func50, Tryd.ntmps50
  go_wp2
  simp only [maskN x hx, maskN y hy, divN, mulN, addN, wrapN _ bd, wrapN _ bb', wrapN _ bt, maskN _ bt, wrapN _ bc', wrapN _ bw, wrapN _ ba', wrapN _ bh1, wrapN _ bh, wrapM (x * y)]
  rw [hhi]
  go_ret2
  exact ⟨rfl, rfl⟩
theorem mul64_ex (x y : Nat) (hx : x < 18446744073709551616) (hy : y < 18446744073709551616) (w : World) :
    Calls Tryd.prog 50 #[.int .u64 x, .int .u64 y] w fun e w' => ∃ hi lo : Nat, Hid (hi * 18446744073709551616 + lo = x * y) ∧ lo < 18446744073709551616 ∧ hi ≤ 18446744073709551614 ∧ e = .returned (.tuple #[.int .u64 hi, .int .u64 lo]) ∧ w' = w := by
  refine (mul64_any x y hx hy w).mono ?_
  rintro e w' ⟨rfl, rfl⟩
  have h : x * y ≤ 18446744073709551615 * 18446744073709551615 := Nat.mul_le_mul (by omega) (by omega)
  generalize x * y = p at *
  exact ⟨_, _, by show _ = _; omega, Nat.mod_lt _ (by omega), by omega, rfl, rfl⟩
theorem add64_ex (x y : Nat) : ∃ s c : Nat, Hid (s + c * 18446744073709551616 = x + y) ∧ s < 18446744073709551616 ∧ (x < 18446744073709551616 → y < 18446744073709551616 → c ≤ 1) ∧
    ∀ w : World, (callFunc 51 #[.int .u64 x, .int .u64 y, .int .u64 0]).run Tryd.prog w = .ok (.value (.tuple #[.int .u64 s, .int .u64 c])) w := by
  refine ⟨(x + y) % 18446744073709551616, (x + y) / 18446744073709551616, by show _ = _; omega, Nat.mod_lt _ (by omega), fun _ _ => by omega, fun w => ?_⟩
  rw [call_add64 _ _ _ (by omega) (by omega) (by omega) (by omega)]
  have e1 : ((x : Int) + y + 0) % 18446744073709551616 = (((x + y) % 18446744073709551616 : Nat) : Int) := by omega
  have e2 : ((x : Int) + y + 0) / 18446744073709551616 = (((x + y) / 18446744073709551616 : Nat) : Int) := by omega
  rw [e1, e2]
theorem mulAdd_fin {x y m s hi lo s1 c1 s2 c2 : Nat} (h1 : hi * 18446744073709551616 + lo = x * y) (h2 : s1 + c1 * 18446744073709551616 = lo + m) (h3 : s2 + c2 * 18446744073709551616 = s1 + s) (h4 : s2 < 18446744073709551616) :
    hi + c1 + c2 = (x * y + m + s) / 18446744073709551616 ∧ s2 = (x * y + m + s) % 18446744073709551616 := by
  rw [← h1]; omega
theorem mulAdd_bd {x y m s hi lo s1 c1 s2 c2 : Nat} (hx : x < 18446744073709551616) (hy : y < 18446744073709551616) (hm : m < 18446744073709551616) (hs : s < 18446744073709551616) (h1 : hi * 18446744073709551616 + lo = x * y) (h2 : s1 + c1 * 18446744073709551616 = lo + m) (h3 : s2 + c2 * 18446744073709551616 = s1 + s) :
    hi + c1 + c2 ≤ 18446744073709551615 := by
  have h : x * y ≤ 18446744073709551615 * 18446744073709551615 := Nat.mul_le_mul (by omega) (by omega)
  rw [← h1] at h; omega
theorem index4 (a k : Nat) (hk : k < 4) (w : World) : (Instr.index 58 (.agg #[.int .u64 (limb a 0), .int .u64 (limb a 1), .int .u64 (limb a 2), .int .u64 (limb a 3)]) (.int .i64 (k : Int))).run Tryd.prog w = .ok (.int .u64 (limbN a k : Int)) w := by
  rcases k4 hk with rfl | rfl | rfl | rfl <;> kernel_rfl
end cin
end Go.Proofs.YtohoajjdoihekaaDoor
