/-
  Two words compared by ==: a law for the walk.
-/
import Derived.Test.YtohoajjdoihekaaRows
import Derived.Test.YtohoajjdoihekaaNum3
import Derived.WalkKit
import Derived.WalkSpells
import Derived.WalkLawsBesides
import Derived.ChangeKeysEq
set_option linter.unusedVariables false
set_option linter.unusedSimpArgs false
namespace Go.Proofs.Ytohoajjdoihekaa
open Go.RowKit
namespace cin
theorem cellsU : Try.prog.cellsOf 22 = 1 := by kernel_rfl
theorem part0 (x0 x1 x2 x3 : Int) (w : World) : (part 22 #[.int .u64 x0, .int .u64 x1, .int .u64 x2, .int .u64 x3] 0).run Try.prog w = .ok (.int .u64 x0) w := by simp [part, isAgg, run_underlying Try.underlying22]
theorem part1 (x0 x1 x2 x3 : Int) (w : World) : (part 22 #[.int .u64 x0, .int .u64 x1, .int .u64 x2, .int .u64 x3] 1).run Try.prog w = .ok (.int .u64 x1) w := by simp [part, isAgg, run_underlying Try.underlying22]
theorem part2 (x0 x1 x2 x3 : Int) (w : World) : (part 22 #[.int .u64 x0, .int .u64 x1, .int .u64 x2, .int .u64 x3] 2).run Try.prog w = .ok (.int .u64 x2) w := by simp [part, isAgg, run_underlying Try.underlying22]
theorem part3 (x0 x1 x2 x3 : Int) (w : World) : (part 22 #[.int .u64 x0, .int .u64 x1, .int .u64 x2, .int .u64 x3] 3).run Try.prog w = .ok (.int .u64 x3) w := by simp [part, isAgg, run_underlying Try.underlying22]
theorem eqInt (x y : Int) (w : World) : (Op.equalIn 9999 22 (.int .u64 x) (.int .u64 y)).run Try.prog w = .ok (x == y) w := run_equalIn_int w 9998 22 .u64 .u64 x y Try.underlying22
theorem eq4 (x0 x1 x2 x3 y0 y1 y2 y3 : Int) (w : World) : (Op.equalIn 10000 24 (.agg #[.int .u64 x0, .int .u64 x1, .int .u64 x2, .int .u64 x3]) (.agg #[.int .u64 y0, .int .u64 y1, .int .u64 y2, .int .u64 y3])).run Try.prog w = .ok (x0 == y0 && (x1 == y1 && (x2 == y2 && x3 == y3))) w := by
  obtain ⟨i, hi, -⟩ := Option.map_eq_some_iff.1 (show (Try.prog.info? 22).map (fun i => i.size) = some 1 by kernel_rfl)
  rw [run_equalIn_array w 9999 _ _ Try.underlying24 hi, show List.range 4 = [0, 1, 2, 3] from rfl, cellsU]
  simp only [Op.eqItems, Sem.run_bind, Nat.mul_one, part0, part1, part2, part3, Result.andThen_ok, eqInt, Sem.run_ite, Sem.run_pure]
  cases h0 : (x0 == y0) <;> cases h1 : (x1 == y1) <;> cases h2 : (x2 == y2) <;> cases h3 : (x3 == y3) <;> rfl
def eqw (a b : Nat) : Bool := decide (a % M = b % M)
theorem eqw_limbs (a b : Nat) : (limb a 0 == limb b 0 && (limb a 1 == limb b 1 && (limb a 2 == limb b 2 && limb a 3 == limb b 3))) = eqw a b := by
  unfold eqw M
  rw [Bool.eq_iff_iff]
  simp only [Bool.and_eq_true, beq_iff_eq, decide_eq_true_eq]
  unfold limb
  rw [pw0, pw1, pw2, pw3]
  omega
/-- two words, compared -/
theorem eq_words (a b : Nat) (w : World) : (Op.equalIn 10000 24 (wv a) (wv b)).run Try.prog w = .ok (eqw a b) w := by
  rw [eq4, eqw_limbs]
theorem eq_zero (a : Nat) (w : World) : (Op.equalIn 10000 24 (wv a) (.agg #[.int .u64 0, .int .u64 0, .int .u64 0, .int .u64 0])).run Try.prog w = .ok (eqw a 0) w := by
  have e := eq_words a 0 w
  unfold wv at e ⊢
  simp only [limb_zero] at e
  exact e
theorem eqw_true {a b : Nat} (h : a = b) : eqw a b = true := by subst h; simp [eqw]
theorem eqw_false {a b : Nat} (ha : a < M) (hb : b < M) (h : a ≠ b) : eqw a b = false := by
  unfold eqw
  rw [Nat.mod_eq_of_lt ha, Nat.mod_eq_of_lt hb]
  simpa using h
end cin
end Go.Proofs.Ytohoajjdoihekaa
