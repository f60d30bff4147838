/-
  Numbers: the equalities that the statement Reckons asks, in the form in which its walk meets them. No call is walked here.
-/
import Derived.Test.YtohoajjdoihekaaNum6
import Derived.Test.YtohoajjdoihekaaWl
set_option linter.unusedVariables false
set_option linter.unusedSimpArgs false
namespace Go.Proofs.Ytohoajjdoihekaa
namespace cin
theorem eqw_mod {m n : Nat} (h : m % M = n % M) : eqw m n = true := by unfold eqw; rw [h]; exact decide_eq_true rfl
theorem eqw_ne {m n : Nat} (h : m % M ≠ n % M) : eqw m n = false := decide_eq_false h
theorem fc1 (a b c : Nat) : fcalc 1 a b c = fadd a b := by simp [fcalc]
theorem fc2 (a b c : Nat) : fcalc 2 a b c = fmul a b := by simp [fcalc]
theorem fc3 (a b c : Nat) : fcalc 3 a b c = fsub a b := by simp [fcalc]
theorem fc4 (a b c : Nat) : fcalc 4 a b c = fdiv a b := by simp [fcalc]
theorem fc5 (a b c : Nat) : fcalc 5 a b c = fsdiv a b := by simp [fcalc]
theorem fc6 (a b c : Nat) : fcalc 6 a b c = fmod a b := by simp [fcalc]
theorem fc7 (a b c : Nat) : fcalc 7 a b c = fsmod a b := by simp [fcalc]
theorem fc8 (a b c : Nat) : fcalc 8 a b c = faddmod a b c := by simp [fcalc]
theorem fc9 (a b c : Nat) : fcalc 9 a b c = fmulmod a b c := by simp [fcalc]
theorem fc10 (a b c : Nat) : fcalc 10 a b c = fexp a b := by simp [fcalc]
theorem fc20 (a b c : Nat) : fcalc 20 a b c = ftruth (decide (a = b)) := by simp [fcalc]
theorem fc21 (a b c : Nat) : fcalc 21 a b c = ftruth (decide (a = 0)) := by simp [fcalc]
theorem fc22 (a b c : Nat) : fcalc 22 a b c = a &&& b := by simp [fcalc]
theorem fc23 (a b c : Nat) : fcalc 23 a b c = a ||| b := by simp [fcalc]
theorem fc24 (a b c : Nat) : fcalc 24 a b c = a ^^^ b := by simp [fcalc]
theorem fc25 (a b c : Nat) : fcalc 25 a b c = fnot a := by simp [fcalc]
theorem fc27 (a b c : Nat) : fcalc 27 a b c = fshl a b := by simp [fcalc]
theorem fc28 (a b c : Nat) : fcalc 28 a b c = fshr a b := by simp [fcalc]
theorem mm (a : Nat) : a % M < M := Nat.mod_lt _ Mpos
theorem md {a : Nat} (h : a < M) : a % M = a := Nat.mod_eq_of_lt h
theorem fadd_m (a b : Nat) : fadd a b % M = fadd a b := md (fadd_lt _ _)
theorem fmul_m (a b : Nat) : fmul a b % M = fmul a b := md (fmul_lt _ _)
theorem fexp_m (a b : Nat) : fexp a b % M = fexp a b := md (fexp_lt _ _)
theorem k34 {a b z u v : Nat} (hu : u = fadd (a % M) (b % M)) (hv : v = fcalc 3 (u % M) (b % M) (z % M)) : eqw v a = true := by
  refine eqw_mod ?_
  rw [hv, fc3, hu, md (fadd_lt _ _), rk_sub _ _ (mm a) (mm b), Nat.mod_mod]
theorem k51 {a b c z p q r s t : Nat} (hp : p = fadd (b % M) (c % M)) (hq : q = fcalc 2 (a % M) (p % M) (z % M)) (hr : r = fcalc 2 (a % M) (b % M) (z % M)) (hs : s = fcalc 2 (a % M) (c % M) (z % M)) (ht : t = fadd (r % M) (s % M)) : eqw q t = true := by
  refine eqw_mod ?_
  rw [hq, ht, hr, hs, hp, fc2, fc2, fc2]
  simp only [fadd_m, fmul_m]
  rw [rk_dist]
theorem k64 {a z p q r : Nat} (hz : z = 0) (hp : p = fcalc 25 (a % M) (z % M) (z % M)) (hq : q = fadd (a % M) (p % M)) (hr : r = fcalc 25 (z % M) (z % M) (z % M)) : eqw q r = true := by
  refine eqw_mod ?_
  rw [hq, hr, hp, fc25, fc25, md (fnot_lt _), rk_not _ (mm a), hz, Nat.zero_mod]
theorem k71 {a z v : Nat} (hz : z = 0) (hv : v = fcalc 4 (a % M) (z % M) (z % M)) : eqw v z = true := by
  refine eqw_mod ?_; rw [hv, fc4, hz, Nat.zero_mod, rk_div0, Nat.zero_mod]
theorem k78 {a z v : Nat} (hz : z = 0) (hv : v = fcalc 6 (a % M) (z % M) (z % M)) : eqw v z = true := by
  refine eqw_mod ?_; rw [hv, fc6, hz, Nat.zero_mod, rk_mod0, Nat.zero_mod]
theorem k86 {a z v : Nat} (hz : z = 0) (hv : v = fcalc 5 (a % M) (z % M) (z % M)) : eqw v z = true := by
  refine eqw_mod ?_; rw [hv, fc5, hz, Nat.zero_mod, rk_sdiv0, Nat.zero_mod]
theorem k94 {a z v : Nat} (hz : z = 0) (hv : v = fcalc 7 (a % M) (z % M) (z % M)) : eqw v z = true := by
  refine eqw_mod ?_; rw [hv, fc7, hz, Nat.zero_mod, rk_smod0, Nat.zero_mod]
theorem kb0 {b z : Nat} (hz : z = 0) (h : false = eqw b z) : b % M ≠ 0 := by
  intro e
  rw [eqw_mod (by rw [e, hz, Nat.zero_mod])] at h
  cases h
theorem klt {a b z r : Nat} (hb : b % M ≠ 0) (hr : r = fcalc 6 (a % M) (b % M) (z % M)) : r % M < b % M := by
  rw [hr, fc6, md (fmod_lt _ _ (mm b))]; exact rk_modlt _ _ hb
theorem k130 {a b z q r u v : Nat} (hb : b % M ≠ 0) (hq : q = fcalc 4 (a % M) (b % M) (z % M)) (hr : r = fcalc 6 (a % M) (b % M) (z % M)) (hu : u = fcalc 2 (q % M) (b % M) (z % M)) (hv : v = fadd (u % M) (r % M)) : eqw v a = true := by
  refine eqw_mod ?_
  rw [hv, hu, hq, hr, fc2, fc4, fc6, md (fdiv_lt _ _ (mm a)), md (fmul_lt _ _), md (fmod_lt _ _ (mm b)), rk_qr _ _ (mm a) hb, Nat.mod_mod]
theorem k140 {a b z q r u v : Nat} (hb : b % M ≠ 0) (hq : q = fcalc 5 (a % M) (b % M) (z % M)) (hr : r = fcalc 7 (a % M) (b % M) (z % M)) (hu : u = fcalc 2 (q % M) (b % M) (z % M)) (hv : v = fadd (u % M) (r % M)) : eqw v a = true := by
  refine eqw_mod ?_
  rw [hv, hu, hq, hr, fc2, fc5, fc7, md (fsdiv_lt _ _ (mm a)), md (fmul_lt _ _), md (fsmod_lt _ _ (mm b)), rk_sqr _ _ (mm a) (mm b) hb, Nat.mod_mod]
theorem small_md {k : Nat} (hk : k < 200) : k % M = k := md (by unfold M; omega)
theorem k162 {a k z two u v : Nat} (hk : k < 200) (ht : two = fcalc 10 (2 % M) (k % M) (z % M)) (hu : u = fcalc 27 (k % M) (a % M) (z % M)) (hv : v = fcalc 2 (a % M) (two % M) (z % M)) : eqw u v = true := by
  refine eqw_mod ?_
  rw [hu, hv, ht, fc27, fc2, fc10, md (fexp_lt _ _), small_md hk, md (show 2 < M by unfold M; omega), rk_shl _ _ hk]
theorem k173 {a k z two u v : Nat} (hk : k < 200) (ht : two = fcalc 10 (2 % M) (k % M) (z % M)) (hu : u = fcalc 28 (k % M) (a % M) (z % M)) (hv : v = fcalc 4 (a % M) (two % M) (z % M)) : eqw u v = true := by
  refine eqw_mod ?_
  rw [hu, hv, ht, fc28, fc4, fc10, md (fexp_lt _ _), small_md hk, md (show 2 < M by unfold M; omega), rk_shr _ _ hk]
theorem k190 {a k z u v t : Nat} (hk : k < 200) (hu : u = fcalc 10 (a % M) ((k + 1) % M) (z % M)) (hv : v = fcalc 10 (a % M) (k % M) (z % M)) (ht : t = fcalc 2 (a % M) (v % M) (z % M)) : eqw u t = true := by
  refine eqw_mod ?_
  rw [hu, ht, hv, fc10, fc2, fc10]
  simp only [fexp_m, fmul_m]
  rw [small_md hk, md (show k + 1 < M by unfold M; omega), rk_expS]
theorem k206 {a b z u v t s : Nat} (hu : u = fcalc 22 (a % M) (b % M) (z % M)) (hv : v = fcalc 23 (a % M) (b % M) (z % M)) (ht : t = fcalc 24 (u % M) (v % M) (z % M)) (hs : s = fcalc 24 (a % M) (b % M) (z % M)) : eqw t s = true := by
  refine eqw_mod ?_
  rw [ht, hs, hu, hv, fc24, fc24, fc22, fc23, md (and_lt _ _ (mm a)), md (or_lt _ _ (mm a) (mm b)), rk_xor]
theorem k219 {a b z u v t : Nat} (hu : u = fcalc 20 (a % M) (b % M) (z % M)) (hv : v = fcalc 21 (u % M) (z % M) (z % M)) (ht : t = fcalc 20 (a % M) (b % M) (z % M)) : eqw v t = false := by
  refine eqw_ne ?_
  rw [hv, ht, hu, fc21, fc20, md (ftruth_lt _), md (ftruth_lt _)]
  exact rk_truth _
theorem k227 {z o v : Nat} (hz : z = 0) (ho : o = 1) (hv : v = fcalc 10 (z % M) (z % M) (z % M)) : eqw v o = true := by
  refine eqw_mod ?_
  rw [hv, fc10, hz, ho, Nat.zero_mod, rk_00]
end cin
end Go.Proofs.Ytohoajjdoihekaa
