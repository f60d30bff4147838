/-
  The walks of package word's Calc: every operation, of any words.
-/
import Derived.Test.YtohoajjdoihekaaWi
import Derived.Test.YtohoajjdoihekaaWj
import Derived.Test.YtohoajjdoihekaaWk
import Derived.Test.YtohoajjdoihekaaWm
set_option linter.unusedVariables false
set_option linter.unusedSimpArgs false
namespace Go.Proofs.Ytohoajjdoihekaa
open Go.RowKit
namespace cin
/-- what the operation op gives, of words below 2 to the 256 -/
def fcalc (op a b c : Nat) : Nat :=
  if op = 1 then fadd a b else if op = 2 then fmul a b else if op = 3 then fsub a b else if op = 4 then fdiv a b else if op = 5 then fsdiv a b else if op = 6 then fmod a b else if op = 7 then fsmod a b
  else if op = 8 then faddmod a b c else if op = 9 then fmulmod a b c else if op = 10 then fexp a b else if op = 11 then fsext a b
  else if op = 16 then ftruth (decide (a < b)) else if op = 17 then ftruth (decide (b < a)) else if op = 18 then ftruth (fslt a b) else if op = 19 then ftruth (fslt b a) else if op = 20 then ftruth (decide (a = b)) else if op = 21 then ftruth (decide (a = 0))
  else if op = 22 then a &&& b else if op = 23 then a ||| b else if op = 24 then a ^^^ b else if op = 25 then fnot a else if op = 26 then fbyte a b else if op = 27 then fshl a b else if op = 28 then fshr a b else if op = 29 then fsar a b else 0
def ferr (op : Nat) : Int := if 1 ≤ op ∧ op ≤ 11 ∨ 16 ≤ op ∧ op ≤ 29 then 0 else 1
/-- a call that gives the word n and the error k -/
def Ret2 (w : World) (n : Nat) (k : Int) (e : Ending) (w' : World) : Prop := ∃ r : Nat, Hid (r = n) ∧ e = .returned (.tuple #[wv r, .int .i64 k]) ∧ Below w.heap.size w w'
theorem ret2_mk {w w' : World} {n r : Nat} {k : Int} (h : r % M = n % M) (hb : Below w.heap.size w w') : Ret2 w n k (.returned (.tuple #[wv r, .int .i64 k])) w' :=
  ⟨n, rfl, congrArg Ending.returned (by rw [wv_congr h]), hb⟩
theorem and_mod (a b : Nat) : (a &&& b) % M = (a % M &&& b % M) % M := by
  rw [M_pow]; apply Nat.eq_of_testBit_eq; intro i; simp only [Nat.testBit_mod_two_pow, Nat.testBit_and]; cases decide (i < 256) <;> simp
theorem or_mod (a b : Nat) : (a ||| b) % M = (a % M ||| b % M) % M := by
  rw [M_pow]; apply Nat.eq_of_testBit_eq; intro i; simp only [Nat.testBit_mod_two_pow, Nat.testBit_or]; cases decide (i < 256) <;> simp
theorem xor_mod (a b : Nat) : (a ^^^ b) % M = (a % M ^^^ b % M) % M := by
  rw [M_pow]; apply Nat.eq_of_testBit_eq; intro i; simp only [Nat.testBit_mod_two_pow, Nat.testBit_xor]; cases decide (i < 256) <;> simp
theorem add_red (a b : Nat) : fadd a b = fadd (a % M) (b % M) := by unfold fadd; rw [Nat.add_mod]
theorem mul_red (a b : Nat) : fmul a b = fmul (a % M) (b % M) := by unfold fmul; rw [Nat.mul_mod]
theorem sub_red (a b : Nat) : fsub a b = fsub (a % M) b := by unfold fsub; rw [Nat.add_mod a (M - b) M, Nat.add_mod (a % M) (M - b) M, Nat.mod_mod]
theorem shl_red (a b : Nat) : fshl a b = fshl a (b % M) := by
  unfold fshl
  split
  · rw [Nat.mul_mod b (2 ^ a) M, Nat.mul_mod (b % M) (2 ^ a) M, Nat.mod_mod]
  · rfl
theorem and_w (a b : Nat) (w : World) : Calls Try.prog 41 #[wv a, wv b] w (Ret w (a % M &&& b % M)) := by
  refine (and_any a b w).mono ?_; rintro e w' ⟨rfl, hb⟩; exact ret_mk (and_mod a b) hb
theorem or_w (a b : Nat) (w : World) : Calls Try.prog 42 #[wv a, wv b] w (Ret w (a % M ||| b % M)) := by
  refine (or_any a b w).mono ?_; rintro e w' ⟨rfl, hb⟩; exact ret_mk (or_mod a b) hb
theorem xor_w (a b : Nat) (w : World) : Calls Try.prog 43 #[wv a, wv b] w (Ret w (a % M ^^^ b % M)) := by
  refine (xor_any a b w).mono ?_; rintro e w' ⟨rfl, hb⟩; exact ret_mk (xor_mod a b) hb
set_option maxRecDepth 100000 in
set_option maxHeartbeats 1000000 in
theorem ar1 (a b c : Nat) (w : World) : Calls Try.prog 12 #[.int .u8 1, wv a, wv b, wv c] w (Ret2 w (fadd (a % M) (b % M)) 0) := by
  have hs := S4.start w a b c
  go_enter Try.func12, Try.ntmps12
  go_wp2_with fail
  refine (add_any a b _).mono ?_
  rintro e w1 ⟨s, HS, rfl, hb⟩
  replace hs := hs.call hb
  clear hb
  have hrz := hs.rz
  have hbel := hs.be
  obtain ⟨x0, x1, x2, x3⟩ := row_cells4 hrz
  have fz := hrz.frozen
  go_wp2
  obtain ⟨q0, q1, q2, q3⟩ := row_cells4 (row_put4 hrz (limb s) rfl rfl rfl rfl)
  refine bodyPost_ret (v := .tuple #[wv s, .int .i64 0]) (by simp [results, Try.results12, go_sem, q0, q1, q2, q3]) rfl (ret2_mk (by rw [HS.out, add_red]) ?_)
  exact below_put4 hbel (by omega) _ _ _ _
set_option maxRecDepth 100000 in
set_option maxHeartbeats 1000000 in
theorem ar2 (a b c : Nat) (w : World) : Calls Try.prog 12 #[.int .u8 2, wv a, wv b, wv c] w (Ret2 w (fmul (a % M) (b % M)) 0) := by
  have hs := S4.start w a b c
  go_enter Try.func12, Try.ntmps12
  go_wp2_with fail
  refine (mul_any a b _).mono ?_
  rintro e w1 ⟨s, HS, rfl, hb⟩
  replace hs := hs.call hb
  clear hb
  have hrz := hs.rz
  have hbel := hs.be
  obtain ⟨x0, x1, x2, x3⟩ := row_cells4 hrz
  have fz := hrz.frozen
  go_wp2
  obtain ⟨q0, q1, q2, q3⟩ := row_cells4 (row_put4 hrz (limb s) rfl rfl rfl rfl)
  refine bodyPost_ret (v := .tuple #[wv s, .int .i64 0]) (by simp [results, Try.results12, go_sem, q0, q1, q2, q3]) rfl (ret2_mk (by rw [HS.out, mul_red]) ?_)
  exact below_put4 hbel (by omega) _ _ _ _
set_option maxRecDepth 100000 in
set_option maxHeartbeats 1000000 in
theorem ar3 (a b c : Nat) (w : World) : Calls Try.prog 12 #[.int .u8 3, wv a, wv b, wv c] w (Ret2 w (fsub (a % M) (b % M)) 0) := by
  have hs := S4.start w a b c
  go_enter Try.func12, Try.ntmps12
  go_wp2_with fail
  refine (sub_any a b _).mono ?_
  rintro e w1 ⟨s, HS, rfl, hb⟩
  replace hs := hs.call hb
  clear hb
  have hrz := hs.rz
  have hbel := hs.be
  obtain ⟨x0, x1, x2, x3⟩ := row_cells4 hrz
  have fz := hrz.frozen
  go_wp2
  obtain ⟨q0, q1, q2, q3⟩ := row_cells4 (row_put4 hrz (limb s) rfl rfl rfl rfl)
  refine bodyPost_ret (v := .tuple #[wv s, .int .i64 0]) (by simp [results, Try.results12, go_sem, q0, q1, q2, q3]) rfl (ret2_mk (by rw [HS.out, sub_red]) ?_)
  exact below_put4 hbel (by omega) _ _ _ _
set_option maxRecDepth 100000 in
set_option maxHeartbeats 1000000 in
theorem ar4 (a b c : Nat) (w : World) : Calls Try.prog 12 #[.int .u8 4, wv a, wv b, wv c] w (Ret2 w (fdiv (a % M) (b % M)) 0) := by
  have hs := S4.start w a b c
  go_enter Try.func12, Try.ntmps12
  go_wp2_with fail
  refine (div_any a b _).mono ?_
  rintro e w1 ⟨s, HS, rfl, hb⟩
  replace hs := hs.call hb
  clear hb
  have hrz := hs.rz
  have hbel := hs.be
  obtain ⟨x0, x1, x2, x3⟩ := row_cells4 hrz
  have fz := hrz.frozen
  go_wp2
  obtain ⟨q0, q1, q2, q3⟩ := row_cells4 (row_put4 hrz (limb s) rfl rfl rfl rfl)
  refine bodyPost_ret (v := .tuple #[wv s, .int .i64 0]) (by simp [results, Try.results12, go_sem, q0, q1, q2, q3]) rfl (ret2_mk (by rw [HS.out]) ?_)
  exact below_put4 hbel (by omega) _ _ _ _
set_option maxRecDepth 100000 in
set_option maxHeartbeats 1000000 in
theorem ar5 (a b c : Nat) (w : World) : Calls Try.prog 12 #[.int .u8 5, wv a, wv b, wv c] w (Ret2 w (fsdiv (a % M) (b % M)) 0) := by
  have hs := S4.start w a b c
  go_enter Try.func12, Try.ntmps12
  go_wp2_with fail
  refine (sdiv_any a b _).mono ?_
  rintro e w1 ⟨s, HS, rfl, hb⟩
  replace hs := hs.call hb
  clear hb
  have hrz := hs.rz
  have hbel := hs.be
  obtain ⟨x0, x1, x2, x3⟩ := row_cells4 hrz
  have fz := hrz.frozen
  go_wp2
  obtain ⟨q0, q1, q2, q3⟩ := row_cells4 (row_put4 hrz (limb s) rfl rfl rfl rfl)
  refine bodyPost_ret (v := .tuple #[wv s, .int .i64 0]) (by simp [results, Try.results12, go_sem, q0, q1, q2, q3]) rfl (ret2_mk (by rw [HS.out]) ?_)
  exact below_put4 hbel (by omega) _ _ _ _
set_option maxRecDepth 100000 in
set_option maxHeartbeats 1000000 in
theorem ar6 (a b c : Nat) (w : World) : Calls Try.prog 12 #[.int .u8 6, wv a, wv b, wv c] w (Ret2 w (fmod (a % M) (b % M)) 0) := by
  have hs := S4.start w a b c
  go_enter Try.func12, Try.ntmps12
  go_wp2_with fail
  refine (mod_any a b _).mono ?_
  rintro e w1 ⟨s, HS, rfl, hb⟩
  replace hs := hs.call hb
  clear hb
  have hrz := hs.rz
  have hbel := hs.be
  obtain ⟨x0, x1, x2, x3⟩ := row_cells4 hrz
  have fz := hrz.frozen
  go_wp2
  obtain ⟨q0, q1, q2, q3⟩ := row_cells4 (row_put4 hrz (limb s) rfl rfl rfl rfl)
  refine bodyPost_ret (v := .tuple #[wv s, .int .i64 0]) (by simp [results, Try.results12, go_sem, q0, q1, q2, q3]) rfl (ret2_mk (by rw [HS.out]) ?_)
  exact below_put4 hbel (by omega) _ _ _ _
set_option maxRecDepth 100000 in
set_option maxHeartbeats 1000000 in
theorem ar7 (a b c : Nat) (w : World) : Calls Try.prog 12 #[.int .u8 7, wv a, wv b, wv c] w (Ret2 w (fsmod (a % M) (b % M)) 0) := by
  have hs := S4.start w a b c
  go_enter Try.func12, Try.ntmps12
  go_wp2_with fail
  refine (smod_any a b _).mono ?_
  rintro e w1 ⟨s, HS, rfl, hb⟩
  replace hs := hs.call hb
  clear hb
  have hrz := hs.rz
  have hbel := hs.be
  obtain ⟨x0, x1, x2, x3⟩ := row_cells4 hrz
  have fz := hrz.frozen
  go_wp2
  obtain ⟨q0, q1, q2, q3⟩ := row_cells4 (row_put4 hrz (limb s) rfl rfl rfl rfl)
  refine bodyPost_ret (v := .tuple #[wv s, .int .i64 0]) (by simp [results, Try.results12, go_sem, q0, q1, q2, q3]) rfl (ret2_mk (by rw [HS.out]) ?_)
  exact below_put4 hbel (by omega) _ _ _ _
set_option maxRecDepth 100000 in
set_option maxHeartbeats 1000000 in
theorem ar8 (a b c : Nat) (w : World) : Calls Try.prog 12 #[.int .u8 8, wv a, wv b, wv c] w (Ret2 w (faddmod (a % M) (b % M) (c % M)) 0) := by
  have hs := S4.start w a b c
  go_enter Try.func12, Try.ntmps12
  go_wp2_with fail
  refine (addmod_any a b c _).mono ?_
  rintro e w1 ⟨s, HS, rfl, hb⟩
  replace hs := hs.call hb
  clear hb
  have hrz := hs.rz
  have hbel := hs.be
  obtain ⟨x0, x1, x2, x3⟩ := row_cells4 hrz
  have fz := hrz.frozen
  go_wp2
  obtain ⟨q0, q1, q2, q3⟩ := row_cells4 (row_put4 hrz (limb s) rfl rfl rfl rfl)
  refine bodyPost_ret (v := .tuple #[wv s, .int .i64 0]) (by simp [results, Try.results12, go_sem, q0, q1, q2, q3]) rfl (ret2_mk (by rw [HS.out]) ?_)
  exact below_put4 hbel (by omega) _ _ _ _
set_option maxRecDepth 100000 in
set_option maxHeartbeats 1000000 in
theorem ar9 (a b c : Nat) (w : World) : Calls Try.prog 12 #[.int .u8 9, wv a, wv b, wv c] w (Ret2 w (fmulmod (a % M) (b % M) (c % M)) 0) := by
  have hs := S4.start w a b c
  go_enter Try.func12, Try.ntmps12
  go_wp2_with fail
  refine (mulmod_any a b c _).mono ?_
  rintro e w1 ⟨s, HS, rfl, hb⟩
  replace hs := hs.call hb
  clear hb
  have hrz := hs.rz
  have hbel := hs.be
  obtain ⟨x0, x1, x2, x3⟩ := row_cells4 hrz
  have fz := hrz.frozen
  go_wp2
  obtain ⟨q0, q1, q2, q3⟩ := row_cells4 (row_put4 hrz (limb s) rfl rfl rfl rfl)
  refine bodyPost_ret (v := .tuple #[wv s, .int .i64 0]) (by simp [results, Try.results12, go_sem, q0, q1, q2, q3]) rfl (ret2_mk (by rw [HS.out]) ?_)
  exact below_put4 hbel (by omega) _ _ _ _
set_option maxRecDepth 100000 in
set_option maxHeartbeats 1000000 in
theorem ar10 (a b c : Nat) (w : World) : Calls Try.prog 12 #[.int .u8 10, wv a, wv b, wv c] w (Ret2 w (fexp (a % M) (b % M)) 0) := by
  have hs := S4.start w a b c
  go_enter Try.func12, Try.ntmps12
  go_wp2_with fail
  refine (exp_any a b _).mono ?_
  rintro e w1 ⟨s, HS, rfl, hb⟩
  replace hs := hs.call hb
  clear hb
  have hrz := hs.rz
  have hbel := hs.be
  obtain ⟨x0, x1, x2, x3⟩ := row_cells4 hrz
  have fz := hrz.frozen
  go_wp2
  obtain ⟨q0, q1, q2, q3⟩ := row_cells4 (row_put4 hrz (limb s) rfl rfl rfl rfl)
  refine bodyPost_ret (v := .tuple #[wv s, .int .i64 0]) (by simp [results, Try.results12, go_sem, q0, q1, q2, q3]) rfl (ret2_mk (by rw [HS.out]) ?_)
  exact below_put4 hbel (by omega) _ _ _ _
set_option maxRecDepth 100000 in
set_option maxHeartbeats 1000000 in
theorem ar11 (a b c : Nat) (w : World) : Calls Try.prog 12 #[.int .u8 11, wv a, wv b, wv c] w (Ret2 w (fsext (a % M) (b % M)) 0) := by
  have hs := S4.start w a b c
  go_enter Try.func12, Try.ntmps12
  go_wp2_with fail
  refine (signextend_any a b _).mono ?_
  rintro e w1 ⟨s, HS, rfl, hb⟩
  replace hs := hs.call hb
  clear hb
  have hrz := hs.rz
  have hbel := hs.be
  obtain ⟨x0, x1, x2, x3⟩ := row_cells4 hrz
  have fz := hrz.frozen
  go_wp2
  obtain ⟨q0, q1, q2, q3⟩ := row_cells4 (row_put4 hrz (limb s) rfl rfl rfl rfl)
  refine bodyPost_ret (v := .tuple #[wv s, .int .i64 0]) (by simp [results, Try.results12, go_sem, q0, q1, q2, q3]) rfl (ret2_mk (by rw [HS.out]) ?_)
  exact below_put4 hbel (by omega) _ _ _ _
set_option maxRecDepth 100000 in
set_option maxHeartbeats 1000000 in
theorem ar0 (a b c : Nat) (w : World) : Calls Try.prog 12 #[.int .u8 0, wv a, wv b, wv c] w (Ret2 w 0 1) := by
  have hs := S4.start w a b c
  go_enter Try.func12, Try.ntmps12
  have hrz := hs.rz
  have hbel := hs.be
  go_wp2
  refine bodyPost_ret (v := .tuple #[wv 0, .int .i64 1]) (by rw [← wv_zero]; simp [results, Try.results12, go_sem]) rfl (ret2_mk rfl ?_)
  exact hs.be
set_option maxRecDepth 100000 in
set_option maxHeartbeats 1000000 in
theorem co16 (a b : Nat) (w : World) : Calls Try.prog 13 #[.int .u8 16, wv a, wv b] w (Ret2 w (ftruth (decide (a % M < b % M))) 0) := by
  have hs := SS.start w a b
  go_enter Try.func13, Try.ntmps13
  go_wp2_with fail
  refine (less_w a b _).mono ?_
  rintro e w1 ⟨t, HT, rfl, hb⟩
  replace hs := hs.call hb
  clear hb
  go_wp2_with fail
  refine (truth_any t _).mono ?_
  rintro e w2 ⟨s, HS, rfl, hb⟩
  replace hs := hs.call hb
  clear hb
  have hrz := hs.rz
  have hbel := hs.be
  obtain ⟨x0, x1, x2, x3⟩ := row_cells4 hrz
  have fz := hrz.frozen
  go_wp2
  obtain ⟨q0, q1, q2, q3⟩ := row_cells4 (row_put4 hrz (limb s) rfl rfl rfl rfl)
  refine bodyPost_ret (v := .tuple #[wv s, .int .i64 0]) (by simp [results, Try.results13, go_sem, q0, q1, q2, q3]) rfl (ret2_mk (by rw [HS.out, HT.out]) ?_)
  exact below_put4 hbel (by omega) _ _ _ _
set_option maxRecDepth 100000 in
set_option maxHeartbeats 1000000 in
theorem co17 (a b : Nat) (w : World) : Calls Try.prog 13 #[.int .u8 17, wv a, wv b] w (Ret2 w (ftruth (decide (b % M < a % M))) 0) := by
  have hs := SS.start w a b
  go_enter Try.func13, Try.ntmps13
  go_wp2_with fail
  refine (less_w b a _).mono ?_
  rintro e w1 ⟨t, HT, rfl, hb⟩
  replace hs := hs.call hb
  clear hb
  go_wp2_with fail
  refine (truth_any t _).mono ?_
  rintro e w2 ⟨s, HS, rfl, hb⟩
  replace hs := hs.call hb
  clear hb
  have hrz := hs.rz
  have hbel := hs.be
  obtain ⟨x0, x1, x2, x3⟩ := row_cells4 hrz
  have fz := hrz.frozen
  go_wp2
  obtain ⟨q0, q1, q2, q3⟩ := row_cells4 (row_put4 hrz (limb s) rfl rfl rfl rfl)
  refine bodyPost_ret (v := .tuple #[wv s, .int .i64 0]) (by simp [results, Try.results13, go_sem, q0, q1, q2, q3]) rfl (ret2_mk (by rw [HS.out, HT.out]) ?_)
  exact below_put4 hbel (by omega) _ _ _ _
set_option maxRecDepth 100000 in
set_option maxHeartbeats 1000000 in
theorem co18 (a b : Nat) (w : World) : Calls Try.prog 13 #[.int .u8 18, wv a, wv b] w (Ret2 w (ftruth (fslt (a % M) (b % M))) 0) := by
  have hs := SS.start w a b
  go_enter Try.func13, Try.ntmps13
  go_wp2_with fail
  refine (signedLess_any a b _).mono ?_
  rintro e w1 ⟨t, HT, rfl, hb⟩
  replace hs := hs.call hb
  clear hb
  go_wp2_with fail
  refine (truth_any t _).mono ?_
  rintro e w2 ⟨s, HS, rfl, hb⟩
  replace hs := hs.call hb
  clear hb
  have hrz := hs.rz
  have hbel := hs.be
  obtain ⟨x0, x1, x2, x3⟩ := row_cells4 hrz
  have fz := hrz.frozen
  go_wp2
  obtain ⟨q0, q1, q2, q3⟩ := row_cells4 (row_put4 hrz (limb s) rfl rfl rfl rfl)
  refine bodyPost_ret (v := .tuple #[wv s, .int .i64 0]) (by simp [results, Try.results13, go_sem, q0, q1, q2, q3]) rfl (ret2_mk (by rw [HS.out, HT.out]) ?_)
  exact below_put4 hbel (by omega) _ _ _ _
set_option maxRecDepth 100000 in
set_option maxHeartbeats 1000000 in
theorem co19 (a b : Nat) (w : World) : Calls Try.prog 13 #[.int .u8 19, wv a, wv b] w (Ret2 w (ftruth (fslt (b % M) (a % M))) 0) := by
  have hs := SS.start w a b
  go_enter Try.func13, Try.ntmps13
  go_wp2_with fail
  refine (signedLess_any b a _).mono ?_
  rintro e w1 ⟨t, HT, rfl, hb⟩
  replace hs := hs.call hb
  clear hb
  go_wp2_with fail
  refine (truth_any t _).mono ?_
  rintro e w2 ⟨s, HS, rfl, hb⟩
  replace hs := hs.call hb
  clear hb
  have hrz := hs.rz
  have hbel := hs.be
  obtain ⟨x0, x1, x2, x3⟩ := row_cells4 hrz
  have fz := hrz.frozen
  go_wp2
  obtain ⟨q0, q1, q2, q3⟩ := row_cells4 (row_put4 hrz (limb s) rfl rfl rfl rfl)
  refine bodyPost_ret (v := .tuple #[wv s, .int .i64 0]) (by simp [results, Try.results13, go_sem, q0, q1, q2, q3]) rfl (ret2_mk (by rw [HS.out, HT.out]) ?_)
  exact below_put4 hbel (by omega) _ _ _ _
set_option maxRecDepth 100000 in
set_option maxHeartbeats 1000000 in
theorem co20 (a b : Nat) (w : World) : Calls Try.prog 13 #[.int .u8 20, wv a, wv b] w (Ret2 w (ftruth (decide (a % M = b % M))) 0) := by
  have hs := SS.start w a b
  obtain ⟨t, HT⟩ : ∃ t, Hid (t = decide (a % M = b % M)) := ⟨_, rfl⟩
  have he : ∀ w, (Op.equalIn 10000 24 (wv a) (wv b)).run Try.prog w = .ok t w := fun w => by rw [eq_words, HT.out]; rfl
  go_enter Try.func13, Try.ntmps13
  go_wp2_with fail
  refine (truth_any t _).mono ?_
  rintro e w2 ⟨s, HS, rfl, hb⟩
  replace hs := hs.call hb
  clear hb
  have hrz := hs.rz
  have hbel := hs.be
  obtain ⟨x0, x1, x2, x3⟩ := row_cells4 hrz
  have fz := hrz.frozen
  go_wp2
  obtain ⟨q0, q1, q2, q3⟩ := row_cells4 (row_put4 hrz (limb s) rfl rfl rfl rfl)
  refine bodyPost_ret (v := .tuple #[wv s, .int .i64 0]) (by simp [results, Try.results13, go_sem, q0, q1, q2, q3]) rfl (ret2_mk (by rw [HS.out, HT.out]) ?_)
  exact below_put4 hbel (by omega) _ _ _ _
set_option maxRecDepth 100000 in
set_option maxHeartbeats 1000000 in
theorem co21 (a b : Nat) (w : World) : Calls Try.prog 13 #[.int .u8 21, wv a, wv b] w (Ret2 w (ftruth (decide (a % M = 0))) 0) := by
  have hs := SS.start w a b
  obtain ⟨t, HT⟩ : ∃ t, Hid (t = decide (a % M = 0)) := ⟨_, rfl⟩
  have he : ∀ w, (Op.equalIn 10000 24 (wv a) (.agg #[.int .u64 0, .int .u64 0, .int .u64 0, .int .u64 0])).run Try.prog w = .ok t w := fun w => by rw [eq_zero, HT.out]; rfl
  go_enter Try.func13, Try.ntmps13
  go_wp2_with fail
  refine (truth_any t _).mono ?_
  rintro e w2 ⟨s, HS, rfl, hb⟩
  replace hs := hs.call hb
  clear hb
  have hrz := hs.rz
  have hbel := hs.be
  obtain ⟨x0, x1, x2, x3⟩ := row_cells4 hrz
  have fz := hrz.frozen
  go_wp2
  obtain ⟨q0, q1, q2, q3⟩ := row_cells4 (row_put4 hrz (limb s) rfl rfl rfl rfl)
  refine bodyPost_ret (v := .tuple #[wv s, .int .i64 0]) (by simp [results, Try.results13, go_sem, q0, q1, q2, q3]) rfl (ret2_mk (by rw [HS.out, HT.out]) ?_)
  exact below_put4 hbel (by omega) _ _ _ _
set_option maxRecDepth 100000 in
set_option maxHeartbeats 1000000 in
theorem co12 (a b : Nat) (w : World) : Calls Try.prog 13 #[.int .u8 12, wv a, wv b] w (Ret2 w 0 1) := by
  have hs := SS.start w a b
  go_enter Try.func13, Try.ntmps13
  have hrz := hs.rz
  have hbel := hs.be
  go_wp2
  refine bodyPost_ret (v := .tuple #[wv 0, .int .i64 1]) (by rw [← wv_zero]; simp [results, Try.results13, go_sem]) rfl (ret2_mk rfl ?_)
  exact hs.be
set_option maxRecDepth 100000 in
set_option maxHeartbeats 1000000 in
theorem co13 (a b : Nat) (w : World) : Calls Try.prog 13 #[.int .u8 13, wv a, wv b] w (Ret2 w 0 1) := by
  have hs := SS.start w a b
  go_enter Try.func13, Try.ntmps13
  have hrz := hs.rz
  have hbel := hs.be
  go_wp2
  refine bodyPost_ret (v := .tuple #[wv 0, .int .i64 1]) (by rw [← wv_zero]; simp [results, Try.results13, go_sem]) rfl (ret2_mk rfl ?_)
  exact hs.be
set_option maxRecDepth 100000 in
set_option maxHeartbeats 1000000 in
theorem co14 (a b : Nat) (w : World) : Calls Try.prog 13 #[.int .u8 14, wv a, wv b] w (Ret2 w 0 1) := by
  have hs := SS.start w a b
  go_enter Try.func13, Try.ntmps13
  have hrz := hs.rz
  have hbel := hs.be
  go_wp2
  refine bodyPost_ret (v := .tuple #[wv 0, .int .i64 1]) (by rw [← wv_zero]; simp [results, Try.results13, go_sem]) rfl (ret2_mk rfl ?_)
  exact hs.be
set_option maxRecDepth 100000 in
set_option maxHeartbeats 1000000 in
theorem co15 (a b : Nat) (w : World) : Calls Try.prog 13 #[.int .u8 15, wv a, wv b] w (Ret2 w 0 1) := by
  have hs := SS.start w a b
  go_enter Try.func13, Try.ntmps13
  have hrz := hs.rz
  have hbel := hs.be
  go_wp2
  refine bodyPost_ret (v := .tuple #[wv 0, .int .i64 1]) (by rw [← wv_zero]; simp [results, Try.results13, go_sem]) rfl (ret2_mk rfl ?_)
  exact hs.be
set_option maxRecDepth 100000 in
set_option maxHeartbeats 1000000 in
theorem bi22 (a b : Nat) (w : World) : Calls Try.prog 14 #[.int .u8 22, wv a, wv b] w (Ret2 w (a % M &&& b % M) 0) := by
  have hs := SS.start w a b
  go_enter Try.func14, Try.ntmps14
  go_wp2_with fail
  refine (and_w a b _).mono ?_
  rintro e w1 ⟨s, HS, rfl, hb⟩
  replace hs := hs.call hb
  clear hb
  have hrz := hs.rz
  have hbel := hs.be
  obtain ⟨x0, x1, x2, x3⟩ := row_cells4 hrz
  have fz := hrz.frozen
  go_wp2
  obtain ⟨q0, q1, q2, q3⟩ := row_cells4 (row_put4 hrz (limb s) rfl rfl rfl rfl)
  refine bodyPost_ret (v := .tuple #[wv s, .int .i64 0]) (by simp [results, Try.results14, go_sem, q0, q1, q2, q3]) rfl (ret2_mk (by rw [HS.out]) ?_)
  exact below_put4 hbel (by omega) _ _ _ _
set_option maxRecDepth 100000 in
set_option maxHeartbeats 1000000 in
theorem bi23 (a b : Nat) (w : World) : Calls Try.prog 14 #[.int .u8 23, wv a, wv b] w (Ret2 w (a % M ||| b % M) 0) := by
  have hs := SS.start w a b
  go_enter Try.func14, Try.ntmps14
  go_wp2_with fail
  refine (or_w a b _).mono ?_
  rintro e w1 ⟨s, HS, rfl, hb⟩
  replace hs := hs.call hb
  clear hb
  have hrz := hs.rz
  have hbel := hs.be
  obtain ⟨x0, x1, x2, x3⟩ := row_cells4 hrz
  have fz := hrz.frozen
  go_wp2
  obtain ⟨q0, q1, q2, q3⟩ := row_cells4 (row_put4 hrz (limb s) rfl rfl rfl rfl)
  refine bodyPost_ret (v := .tuple #[wv s, .int .i64 0]) (by simp [results, Try.results14, go_sem, q0, q1, q2, q3]) rfl (ret2_mk (by rw [HS.out]) ?_)
  exact below_put4 hbel (by omega) _ _ _ _
set_option maxRecDepth 100000 in
set_option maxHeartbeats 1000000 in
theorem bi24 (a b : Nat) (w : World) : Calls Try.prog 14 #[.int .u8 24, wv a, wv b] w (Ret2 w (a % M ^^^ b % M) 0) := by
  have hs := SS.start w a b
  go_enter Try.func14, Try.ntmps14
  go_wp2_with fail
  refine (xor_w a b _).mono ?_
  rintro e w1 ⟨s, HS, rfl, hb⟩
  replace hs := hs.call hb
  clear hb
  have hrz := hs.rz
  have hbel := hs.be
  obtain ⟨x0, x1, x2, x3⟩ := row_cells4 hrz
  have fz := hrz.frozen
  go_wp2
  obtain ⟨q0, q1, q2, q3⟩ := row_cells4 (row_put4 hrz (limb s) rfl rfl rfl rfl)
  refine bodyPost_ret (v := .tuple #[wv s, .int .i64 0]) (by simp [results, Try.results14, go_sem, q0, q1, q2, q3]) rfl (ret2_mk (by rw [HS.out]) ?_)
  exact below_put4 hbel (by omega) _ _ _ _
set_option maxRecDepth 100000 in
set_option maxHeartbeats 1000000 in
theorem bi25 (a b : Nat) (w : World) : Calls Try.prog 14 #[.int .u8 25, wv a, wv b] w (Ret2 w (fnot (a % M)) 0) := by
  have hs := SS.start w a b
  go_enter Try.func14, Try.ntmps14
  go_wp2_with fail
  refine (not_w a _).mono ?_
  rintro e w1 ⟨s, HS, rfl, hb⟩
  replace hs := hs.call hb
  clear hb
  have hrz := hs.rz
  have hbel := hs.be
  obtain ⟨x0, x1, x2, x3⟩ := row_cells4 hrz
  have fz := hrz.frozen
  go_wp2
  obtain ⟨q0, q1, q2, q3⟩ := row_cells4 (row_put4 hrz (limb s) rfl rfl rfl rfl)
  refine bodyPost_ret (v := .tuple #[wv s, .int .i64 0]) (by simp [results, Try.results14, go_sem, q0, q1, q2, q3]) rfl (ret2_mk (by rw [HS.out]) ?_)
  exact below_put4 hbel (by omega) _ _ _ _
set_option maxRecDepth 100000 in
set_option maxHeartbeats 1000000 in
theorem bi26 (a b : Nat) (w : World) : Calls Try.prog 14 #[.int .u8 26, wv a, wv b] w (Ret2 w (fbyte (a % M) (b % M)) 0) := by
  have hs := SS.start w a b
  go_enter Try.func14, Try.ntmps14
  go_wp2_with fail
  refine (byteAt_any a b _).mono ?_
  rintro e w1 ⟨s, HS, rfl, hb⟩
  replace hs := hs.call hb
  clear hb
  have hrz := hs.rz
  have hbel := hs.be
  obtain ⟨x0, x1, x2, x3⟩ := row_cells4 hrz
  have fz := hrz.frozen
  go_wp2
  obtain ⟨q0, q1, q2, q3⟩ := row_cells4 (row_put4 hrz (limb s) rfl rfl rfl rfl)
  refine bodyPost_ret (v := .tuple #[wv s, .int .i64 0]) (by simp [results, Try.results14, go_sem, q0, q1, q2, q3]) rfl (ret2_mk (by rw [HS.out]) ?_)
  exact below_put4 hbel (by omega) _ _ _ _
set_option maxRecDepth 100000 in
set_option maxHeartbeats 1000000 in
theorem bi27 (a b : Nat) (w : World) : Calls Try.prog 14 #[.int .u8 27, wv a, wv b] w (Ret2 w (fshl (a % M) (b % M)) 0) := by
  have hs := SS.start w a b
  go_enter Try.func14, Try.ntmps14
  go_wp2_with fail
  refine (shl_w a b _).mono ?_
  rintro e w1 ⟨s, HS, rfl, hb⟩
  replace hs := hs.call hb
  clear hb
  have hrz := hs.rz
  have hbel := hs.be
  obtain ⟨x0, x1, x2, x3⟩ := row_cells4 hrz
  have fz := hrz.frozen
  go_wp2
  obtain ⟨q0, q1, q2, q3⟩ := row_cells4 (row_put4 hrz (limb s) rfl rfl rfl rfl)
  refine bodyPost_ret (v := .tuple #[wv s, .int .i64 0]) (by simp [results, Try.results14, go_sem, q0, q1, q2, q3]) rfl (ret2_mk (by rw [HS.out, shl_red]) ?_)
  exact below_put4 hbel (by omega) _ _ _ _
set_option maxRecDepth 100000 in
set_option maxHeartbeats 1000000 in
theorem bi28 (a b : Nat) (w : World) : Calls Try.prog 14 #[.int .u8 28, wv a, wv b] w (Ret2 w (fshr (a % M) (b % M)) 0) := by
  have hs := SS.start w a b
  go_enter Try.func14, Try.ntmps14
  go_wp2_with fail
  refine (shr_w a b _).mono ?_
  rintro e w1 ⟨s, HS, rfl, hb⟩
  replace hs := hs.call hb
  clear hb
  have hrz := hs.rz
  have hbel := hs.be
  obtain ⟨x0, x1, x2, x3⟩ := row_cells4 hrz
  have fz := hrz.frozen
  go_wp2
  obtain ⟨q0, q1, q2, q3⟩ := row_cells4 (row_put4 hrz (limb s) rfl rfl rfl rfl)
  refine bodyPost_ret (v := .tuple #[wv s, .int .i64 0]) (by simp [results, Try.results14, go_sem, q0, q1, q2, q3]) rfl (ret2_mk (by rw [HS.out]) ?_)
  exact below_put4 hbel (by omega) _ _ _ _
set_option maxRecDepth 100000 in
set_option maxHeartbeats 1000000 in
theorem bi29 (a b : Nat) (w : World) : Calls Try.prog 14 #[.int .u8 29, wv a, wv b] w (Ret2 w (fsar (a % M) (b % M)) 0) := by
  have hs := SS.start w a b
  go_enter Try.func14, Try.ntmps14
  go_wp2_with fail
  refine (sar_any a b _).mono ?_
  rintro e w1 ⟨s, HS, rfl, hb⟩
  replace hs := hs.call hb
  clear hb
  have hrz := hs.rz
  have hbel := hs.be
  obtain ⟨x0, x1, x2, x3⟩ := row_cells4 hrz
  have fz := hrz.frozen
  go_wp2
  obtain ⟨q0, q1, q2, q3⟩ := row_cells4 (row_put4 hrz (limb s) rfl rfl rfl rfl)
  refine bodyPost_ret (v := .tuple #[wv s, .int .i64 0]) (by simp [results, Try.results14, go_sem, q0, q1, q2, q3]) rfl (ret2_mk (by rw [HS.out]) ?_)
  exact below_put4 hbel (by omega) _ _ _ _
set_option maxRecDepth 100000 in
set_option maxHeartbeats 1000000 in
theorem biX (op : Nat) (ho : 30 ≤ op) (ho2 : op ≤ 255) (a b : Nat) (w : World) : Calls Try.prog 14 #[.int .u8 (op : Int), wv a, wv b] w (Ret2 w 0 1) := by
  have hs := SS.start w a b
  go_enter Try.func14, Try.ntmps14
  have hrz := hs.rz
  have hbel := hs.be
  go_wp2
  refine bodyPost_ret (v := .tuple #[wv 0, .int .i64 1]) (by rw [← wv_zero]; simp [results, Try.results14, go_sem]) rfl (ret2_mk rfl ?_)
  exact hs.be
end cin
end Go.Proofs.Ytohoajjdoihekaa
