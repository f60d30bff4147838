/-
  Numbers: the last equalities that the statement Reckons asks, in the form in which its walk meets them. No call is walked here.
-/
import Derived.Test.YtohoajjdoihekaaNum7
set_option linter.unusedVariables false
set_option linter.unusedSimpArgs false
namespace Go.Proofs.Ytohoajjdoihekaa
namespace cin
theorem sm_md {k : Nat} (hk : k < 2000) : k % M = k := md (by unfold M; omega)
theorem k236 {a b z o v : Nat} (hz : z = 0) (ho : o = 1) (hv : v = fcalc 8 (a % M) (b % M) (o % M)) : eqw v z = true := by
  refine eqw_mod ?_
  rw [hv, fc8, ho, hz, md (show 1 < M by unfold M; omega), rk_addmod1]
theorem k255 {a b z k m p q r t : Nat} (hk : k < 200) (hk0 : k ≠ 0) (hm : m = k) (hp : p = fcalc 8 (a % M) (b % M) (m % M)) (hq : q = fcalc 6 (a % M) (m % M) (z % M)) (hr : r = fcalc 6 (b % M) (m % M) (z % M)) (ht : t = fcalc 8 (q % M) (r % M) (m % M)) : eqw p t = true := by
  refine eqw_mod ?_
  rw [hp, ht, hq, hr, hm, fc8, fc8, fc6, fc6, small_md hk, md (fmod_lt _ _ (by unfold M; omega)), md (fmod_lt _ _ (by unfold M; omega)), rk_addmod _ _ _ hk0]
theorem k271 {a b z k m p q r t : Nat} (hk : k < 200) (hk0 : k ≠ 0) (hm : m = k) (hp : p = fcalc 9 (a % M) (b % M) (m % M)) (hq : q = fcalc 6 (a % M) (m % M) (z % M)) (hr : r = fcalc 6 (b % M) (m % M) (z % M)) (ht : t = fcalc 9 (q % M) (r % M) (m % M)) : eqw p t = true := by
  refine eqw_mod ?_
  rw [hp, ht, hq, hr, hm, fc9, fc9, fc6, fc6, small_md hk, md (fmod_lt _ _ (by unfold M; omega)), md (fmod_lt _ _ (by unfold M; omega)), rk_mulmod _ _ _ hk0]
theorem k283 {k z v : Nat} (hk : k < 200) (hv : v = fcalc 1 (k % M) (7 % M) (z % M)) : eqw v (k + 7) = true := by
  refine eqw_mod ?_
  rw [hv, fc1, fadd_m, small_md hk, sm_md (show 7 < 2000 by omega)]; rfl
theorem k293 {k z v : Nat} (hk : k < 200) (hv : v = fcalc 2 (k % M) (9 % M) (z % M)) : eqw v (9 * k) = true := by
  refine eqw_mod ?_
  rw [hv, fc2, fmul_m, small_md hk, sm_md (show 9 < 2000 by omega), Nat.mul_comm 9 k]; rfl
theorem k304 {k z v : Nat} (hk : k < 200) (hv : v = fcalc 4 (k % M) (7 % M) (z % M)) : eqw v (k / 7) = true := by
  refine eqw_mod ?_
  rw [hv, fc4, small_md hk, sm_md (show 7 < 2000 by omega)]; rfl
theorem k315 {k z v : Nat} (hk : k < 200) (hv : v = fcalc 6 (k % M) (7 % M) (z % M)) : eqw v (k % 7) = true := by
  refine eqw_mod ?_
  rw [hv, fc6, small_md hk, sm_md (show 7 < 2000 by omega)]; rfl
end cin
end Go.Proofs.Ytohoajjdoihekaa
