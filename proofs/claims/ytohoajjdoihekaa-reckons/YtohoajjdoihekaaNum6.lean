/-
  Numbers: the laws of reckoning, of words below 2 to the 256. No program is named here.
-/
import Derived.Test.YtohoajjdoihekaaNum5
set_option linter.unusedVariables false
set_option linter.unusedSimpArgs false
namespace Go.Proofs.Ytohoajjdoihekaa
namespace cin
theorem rk_sub (a b : Nat) (ha : a < M) (hb : b < M) : fsub (fadd a b) b = a := by
  unfold fsub fadd M at *
  omega
theorem rk_dist (a b c : Nat) : fmul a (fadd b c) = fadd (fmul a b) (fmul a c) := by
  unfold fmul fadd
  rw [Nat.mul_mod_mod, Nat.mul_add, ← Nat.add_mod]
theorem rk_not (a : Nat) (ha : a < M) : fadd a (fnot a) = fnot 0 := by
  unfold fadd fnot M at *
  omega
theorem rk_div0 (a : Nat) : fdiv a 0 = 0 := Nat.div_zero a
theorem rk_mod0 (a : Nat) : fmod a 0 = 0 := rfl
theorem neg_zero : neg 0 = false := by unfold neg M; decide
theorem fmag_zero : fmag 0 = 0 := by unfold fmag; rw [neg_zero]; rfl
theorem fneg_zero : fneg 0 = 0 := by unfold fneg M; omega
theorem rk_sdiv0 (a : Nat) : fsdiv a 0 = 0 := by
  unfold fsdiv
  rw [fmag_zero, rk_div0, fneg_zero]
  split <;> rfl
theorem rk_smod0 (a : Nat) : fsmod a 0 = 0 := by
  unfold fsmod
  rw [fmag_zero, rk_mod0, fneg_zero]
  split <;> rfl
theorem rk_modlt (a b : Nat) (h : b ≠ 0) : fmod a b < b := by
  unfold fmod; rw [if_neg h]; exact Nat.mod_lt _ (by omega)
theorem rk_qr (a b : Nat) (ha : a < M) (h : b ≠ 0) : fadd (fmul (fdiv a b) b) (fmod a b) = a := by
  unfold fadd fmul fdiv fmod
  rw [if_neg h, Nat.mod_add_mod, Nat.mul_comm, Nat.div_add_mod, Nat.mod_eq_of_lt ha]
theorem rk_expS (a k : Nat) : fexp a (k + 1) = fmul a (fexp a k) := by
  unfold fexp fmul
  rw [Nat.pow_succ, Nat.mul_mod_mod, Nat.mul_comm]
theorem pow_lt (k : Nat) (hk : k < 200) : 2 ^ k < M := by rw [M_pow]; exact Nat.pow_lt_pow_right (by omega) (by omega)
theorem rk_exp2 (k : Nat) (hk : k < 200) : fexp 2 k = 2 ^ k := by unfold fexp; exact Nat.mod_eq_of_lt (pow_lt k hk)
theorem rk_shl (a k : Nat) (hk : k < 200) : fshl k a = fmul a (fexp 2 k) := by
  rw [rk_exp2 k hk]; unfold fshl fmul; rw [if_pos (by omega)]
theorem rk_shr (a k : Nat) (hk : k < 200) : fshr k a = fdiv a (fexp 2 k) := by
  rw [rk_exp2 k hk]; unfold fshr fdiv; rw [if_pos (by omega)]
theorem rk_xor (a b : Nat) : (a &&& b) ^^^ (a ||| b) = a ^^^ b := by
  apply Nat.eq_of_testBit_eq; intro i
  simp only [Nat.testBit_xor, Nat.testBit_and, Nat.testBit_or]
  cases a.testBit i <;> cases b.testBit i <;> rfl
theorem rk_truth (t : Bool) : ftruth (decide (ftruth t = 0)) ≠ ftruth t := by cases t <;> decide
theorem rk_00 : fexp 0 0 = 1 := by unfold fexp M; decide
theorem rk_addmod1 (a b : Nat) : faddmod a b 1 = 0 := by unfold faddmod fmod; rw [if_neg (by omega), Nat.mod_one]
theorem rk_addmod (a b k : Nat) (hk : k ≠ 0) : faddmod a b k = faddmod (fmod a k) (fmod b k) k := by
  unfold faddmod fmod
  rw [if_neg hk, if_neg hk, if_neg hk, if_neg hk, ← Nat.add_mod]
theorem rk_mulmod (a b k : Nat) (hk : k ≠ 0) : fmulmod a b k = fmulmod (fmod a k) (fmod b k) k := by
  unfold fmulmod fmod
  rw [if_neg hk, if_neg hk, if_neg hk, if_neg hk, ← Nat.mul_mod]
/-- signed: a number out of its sign and its size -/
theorem mag_neg (a : Nat) (ha : a < M) (h : neg a = true) : fmag a = M - a ∧ 0 < a := by
  unfold neg at h
  have h2 := of_decide_eq_true h
  unfold fmag fneg
  rw [show neg a = true from h, if_pos rfl]
  unfold M at *
  omega
theorem mag_pos (a : Nat) (h : neg a = false) : fmag a = a := by unfold fmag; rw [h]; rfl
theorem fneg_int (q : Nat) (hq : q ≤ M) : ∃ e : Int, (fneg q : Int) = e * (M : Int) - q := by
  unfold fneg
  by_cases h : q = 0
  · subst h
    exact ⟨0, by rw [Nat.sub_zero, Nat.mod_self]; simp⟩
  · refine ⟨1, ?_⟩
    rw [Nat.mod_eq_of_lt (by omega)]
    omega
theorem fadd_of (s b t a : Nat) (ha : a < M) (c : Int) (h : (s : Int) * b + t = a + c * (M : Int)) : fadd (fmul s b) t = a := by
  unfold fadd fmul
  rw [Nat.mod_add_mod]
  have h1 : ((s * b + t : Nat) : Int) % (M : Int) = (a : Int) := by
    rw [Int.natCast_add, Int.natCast_mul, h, Int.add_mul_emod_self_right, Int.emod_eq_of_lt (by omega) (by omega)]
  omega
theorem rk_sqr (a b : Nat) (ha : a < M) (hb : b < M) (h : b ≠ 0) : fadd (fmul (fsdiv a b) b) (fsmod a b) = a := by
  have hA : fmag a ≤ M := Nat.le_of_lt (fmag_lt a ha)
  have hB : fmag b ≠ 0 := by
    cases hn : neg b
    · rw [mag_pos b hn]; exact h
    · have := mag_neg b hb hn; omega
  have hQ : fdiv (fmag a) (fmag b) ≤ M := Nat.le_trans (Nat.div_le_self _ _) hA
  have hR : fmod (fmag a) (fmag b) ≤ M := by unfold fmod; rw [if_neg hB]; exact Nat.le_trans (Nat.mod_le _ _) hA
  have hD : (fmag a : Int) = (fdiv (fmag a) (fmag b) : Int) * (fmag b : Int) + (fmod (fmag a) (fmag b) : Int) := by
    unfold fdiv fmod
    rw [if_neg hB, ← Int.natCast_mul, ← Int.natCast_add, Nat.mul_comm, Nat.div_add_mod]
  unfold fsdiv fsmod
  obtain ⟨e, he⟩ := fneg_int _ hQ
  obtain ⟨f, hf⟩ := fneg_int _ hR
  generalize fdiv (fmag a) (fmag b) = q at *
  generalize fmod (fmag a) (fmag b) = r at *
  cases hna : neg a <;> cases hnb : neg b
  · have h1 := mag_pos a hna
    have h2 := mag_pos b hnb
    rw [h1, h2] at hD
    rw [if_neg (by decide), if_neg (by decide)]
    exact fadd_of q b r a ha 0 (by omega)
  · have h1 := mag_pos a hna
    obtain ⟨h2, _⟩ := mag_neg b hb hnb
    have h2' : (fmag b : Int) = (M : Int) - b := by omega
    rw [h1, h2'] at hD
    rw [if_pos (by decide), if_neg (by decide)]
    refine fadd_of (fneg q) b r a ha (e * b - q) ?_
    rw [he, hD]
    grind
  · obtain ⟨h1, _⟩ := mag_neg a ha hna
    have h1' : (fmag a : Int) = (M : Int) - a := by omega
    have h2 := mag_pos b hnb
    rw [h1', h2] at hD
    rw [if_pos (by decide), if_pos rfl]
    refine fadd_of (fneg q) b (fneg r) a ha (e * b + f - 1) ?_
    rw [he, hf]
    grind
  · obtain ⟨h1, _⟩ := mag_neg a ha hna
    have h1' : (fmag a : Int) = (M : Int) - a := by omega
    obtain ⟨h2, _⟩ := mag_neg b hb hnb
    have h2' : (fmag b : Int) = (M : Int) - b := by omega
    rw [h1', h2'] at hD
    rw [if_neg (by decide), if_pos rfl]
    refine fadd_of q b (fneg r) a ha (f + q - 1) ?_
    rw [hf]
    grind
end cin
end Go.Proofs.Ytohoajjdoihekaa
