/-
  The walk of package word's Calc, and of the statements' own small functions over it.
-/
import Derived.Test.YtohoajjdoihekaaWl
set_option linter.unusedVariables false
set_option linter.unusedSimpArgs false
namespace Go.Proofs.Ytohoajjdoihekaa
open Go.RowKit
namespace cin
set_option maxRecDepth 100000 in
set_option maxHeartbeats 1000000 in
theorem calc0 (a b c : Nat) (w : World) : Calls Try.prog 5 #[.int .u8 0, wv a, wv b, wv c] w (Ret2 w (0) 1) := by
  have hs := S4.start w a b c
  go_enter Try.func5, Try.ntmps5
  go_wp2_with fail
  refine (ar0 a b c _).mono ?_
  rintro e w1 ⟨s, HS, rfl, hb⟩
  replace hs := hs.call hb
  clear hb
  have hrz := hs.rz
  have hbel := hs.be
  obtain ⟨x0, x1, x2, x3⟩ := row_cells4 hrz
  have fz := hrz.frozen
  go_wp2
  obtain ⟨q0, q1, q2, q3⟩ := row_cells4 (row_put4 hrz (limb s) rfl rfl rfl rfl)
  refine bodyPost_ret (v := .tuple #[wv s, .int .i64 1]) (by simp [results, Try.results5, go_sem, q0, q1, q2, q3]) rfl (ret2_mk (by rw [HS.out]) ?_)
  exact below_put4 hbel (by omega) _ _ _ _
set_option maxRecDepth 100000 in
set_option maxHeartbeats 1000000 in
theorem calc1 (a b c : Nat) (w : World) : Calls Try.prog 5 #[.int .u8 1, wv a, wv b, wv c] w (Ret2 w (fadd (a % M) (b % M)) 0) := by
  have hs := S4.start w a b c
  go_enter Try.func5, Try.ntmps5
  go_wp2_with fail
  refine (ar1 a b c _).mono ?_
  rintro e w1 ⟨s, HS, rfl, hb⟩
  replace hs := hs.call hb
  clear hb
  have hrz := hs.rz
  have hbel := hs.be
  obtain ⟨x0, x1, x2, x3⟩ := row_cells4 hrz
  have fz := hrz.frozen
  go_wp2
  obtain ⟨q0, q1, q2, q3⟩ := row_cells4 (row_put4 hrz (limb s) rfl rfl rfl rfl)
  refine bodyPost_ret (v := .tuple #[wv s, .int .i64 0]) (by simp [results, Try.results5, go_sem, q0, q1, q2, q3]) rfl (ret2_mk (by rw [HS.out]) ?_)
  exact below_put4 hbel (by omega) _ _ _ _
set_option maxRecDepth 100000 in
set_option maxHeartbeats 1000000 in
theorem calc2 (a b c : Nat) (w : World) : Calls Try.prog 5 #[.int .u8 2, wv a, wv b, wv c] w (Ret2 w (fmul (a % M) (b % M)) 0) := by
  have hs := S4.start w a b c
  go_enter Try.func5, Try.ntmps5
  go_wp2_with fail
  refine (ar2 a b c _).mono ?_
  rintro e w1 ⟨s, HS, rfl, hb⟩
  replace hs := hs.call hb
  clear hb
  have hrz := hs.rz
  have hbel := hs.be
  obtain ⟨x0, x1, x2, x3⟩ := row_cells4 hrz
  have fz := hrz.frozen
  go_wp2
  obtain ⟨q0, q1, q2, q3⟩ := row_cells4 (row_put4 hrz (limb s) rfl rfl rfl rfl)
  refine bodyPost_ret (v := .tuple #[wv s, .int .i64 0]) (by simp [results, Try.results5, go_sem, q0, q1, q2, q3]) rfl (ret2_mk (by rw [HS.out]) ?_)
  exact below_put4 hbel (by omega) _ _ _ _
set_option maxRecDepth 100000 in
set_option maxHeartbeats 1000000 in
theorem calc3 (a b c : Nat) (w : World) : Calls Try.prog 5 #[.int .u8 3, wv a, wv b, wv c] w (Ret2 w (fsub (a % M) (b % M)) 0) := by
  have hs := S4.start w a b c
  go_enter Try.func5, Try.ntmps5
  go_wp2_with fail
  refine (ar3 a b c _).mono ?_
  rintro e w1 ⟨s, HS, rfl, hb⟩
  replace hs := hs.call hb
  clear hb
  have hrz := hs.rz
  have hbel := hs.be
  obtain ⟨x0, x1, x2, x3⟩ := row_cells4 hrz
  have fz := hrz.frozen
  go_wp2
  obtain ⟨q0, q1, q2, q3⟩ := row_cells4 (row_put4 hrz (limb s) rfl rfl rfl rfl)
  refine bodyPost_ret (v := .tuple #[wv s, .int .i64 0]) (by simp [results, Try.results5, go_sem, q0, q1, q2, q3]) rfl (ret2_mk (by rw [HS.out]) ?_)
  exact below_put4 hbel (by omega) _ _ _ _
set_option maxRecDepth 100000 in
set_option maxHeartbeats 1000000 in
theorem calc4 (a b c : Nat) (w : World) : Calls Try.prog 5 #[.int .u8 4, wv a, wv b, wv c] w (Ret2 w (fdiv (a % M) (b % M)) 0) := by
  have hs := S4.start w a b c
  go_enter Try.func5, Try.ntmps5
  go_wp2_with fail
  refine (ar4 a b c _).mono ?_
  rintro e w1 ⟨s, HS, rfl, hb⟩
  replace hs := hs.call hb
  clear hb
  have hrz := hs.rz
  have hbel := hs.be
  obtain ⟨x0, x1, x2, x3⟩ := row_cells4 hrz
  have fz := hrz.frozen
  go_wp2
  obtain ⟨q0, q1, q2, q3⟩ := row_cells4 (row_put4 hrz (limb s) rfl rfl rfl rfl)
  refine bodyPost_ret (v := .tuple #[wv s, .int .i64 0]) (by simp [results, Try.results5, go_sem, q0, q1, q2, q3]) rfl (ret2_mk (by rw [HS.out]) ?_)
  exact below_put4 hbel (by omega) _ _ _ _
set_option maxRecDepth 100000 in
set_option maxHeartbeats 1000000 in
theorem calc5 (a b c : Nat) (w : World) : Calls Try.prog 5 #[.int .u8 5, wv a, wv b, wv c] w (Ret2 w (fsdiv (a % M) (b % M)) 0) := by
  have hs := S4.start w a b c
  go_enter Try.func5, Try.ntmps5
  go_wp2_with fail
  refine (ar5 a b c _).mono ?_
  rintro e w1 ⟨s, HS, rfl, hb⟩
  replace hs := hs.call hb
  clear hb
  have hrz := hs.rz
  have hbel := hs.be
  obtain ⟨x0, x1, x2, x3⟩ := row_cells4 hrz
  have fz := hrz.frozen
  go_wp2
  obtain ⟨q0, q1, q2, q3⟩ := row_cells4 (row_put4 hrz (limb s) rfl rfl rfl rfl)
  refine bodyPost_ret (v := .tuple #[wv s, .int .i64 0]) (by simp [results, Try.results5, go_sem, q0, q1, q2, q3]) rfl (ret2_mk (by rw [HS.out]) ?_)
  exact below_put4 hbel (by omega) _ _ _ _
set_option maxRecDepth 100000 in
set_option maxHeartbeats 1000000 in
theorem calc6 (a b c : Nat) (w : World) : Calls Try.prog 5 #[.int .u8 6, wv a, wv b, wv c] w (Ret2 w (fmod (a % M) (b % M)) 0) := by
  have hs := S4.start w a b c
  go_enter Try.func5, Try.ntmps5
  go_wp2_with fail
  refine (ar6 a b c _).mono ?_
  rintro e w1 ⟨s, HS, rfl, hb⟩
  replace hs := hs.call hb
  clear hb
  have hrz := hs.rz
  have hbel := hs.be
  obtain ⟨x0, x1, x2, x3⟩ := row_cells4 hrz
  have fz := hrz.frozen
  go_wp2
  obtain ⟨q0, q1, q2, q3⟩ := row_cells4 (row_put4 hrz (limb s) rfl rfl rfl rfl)
  refine bodyPost_ret (v := .tuple #[wv s, .int .i64 0]) (by simp [results, Try.results5, go_sem, q0, q1, q2, q3]) rfl (ret2_mk (by rw [HS.out]) ?_)
  exact below_put4 hbel (by omega) _ _ _ _
set_option maxRecDepth 100000 in
set_option maxHeartbeats 1000000 in
theorem calc7 (a b c : Nat) (w : World) : Calls Try.prog 5 #[.int .u8 7, wv a, wv b, wv c] w (Ret2 w (fsmod (a % M) (b % M)) 0) := by
  have hs := S4.start w a b c
  go_enter Try.func5, Try.ntmps5
  go_wp2_with fail
  refine (ar7 a b c _).mono ?_
  rintro e w1 ⟨s, HS, rfl, hb⟩
  replace hs := hs.call hb
  clear hb
  have hrz := hs.rz
  have hbel := hs.be
  obtain ⟨x0, x1, x2, x3⟩ := row_cells4 hrz
  have fz := hrz.frozen
  go_wp2
  obtain ⟨q0, q1, q2, q3⟩ := row_cells4 (row_put4 hrz (limb s) rfl rfl rfl rfl)
  refine bodyPost_ret (v := .tuple #[wv s, .int .i64 0]) (by simp [results, Try.results5, go_sem, q0, q1, q2, q3]) rfl (ret2_mk (by rw [HS.out]) ?_)
  exact below_put4 hbel (by omega) _ _ _ _
set_option maxRecDepth 100000 in
set_option maxHeartbeats 1000000 in
theorem calc8 (a b c : Nat) (w : World) : Calls Try.prog 5 #[.int .u8 8, wv a, wv b, wv c] w (Ret2 w (faddmod (a % M) (b % M) (c % M)) 0) := by
  have hs := S4.start w a b c
  go_enter Try.func5, Try.ntmps5
  go_wp2_with fail
  refine (ar8 a b c _).mono ?_
  rintro e w1 ⟨s, HS, rfl, hb⟩
  replace hs := hs.call hb
  clear hb
  have hrz := hs.rz
  have hbel := hs.be
  obtain ⟨x0, x1, x2, x3⟩ := row_cells4 hrz
  have fz := hrz.frozen
  go_wp2
  obtain ⟨q0, q1, q2, q3⟩ := row_cells4 (row_put4 hrz (limb s) rfl rfl rfl rfl)
  refine bodyPost_ret (v := .tuple #[wv s, .int .i64 0]) (by simp [results, Try.results5, go_sem, q0, q1, q2, q3]) rfl (ret2_mk (by rw [HS.out]) ?_)
  exact below_put4 hbel (by omega) _ _ _ _
set_option maxRecDepth 100000 in
set_option maxHeartbeats 1000000 in
theorem calc9 (a b c : Nat) (w : World) : Calls Try.prog 5 #[.int .u8 9, wv a, wv b, wv c] w (Ret2 w (fmulmod (a % M) (b % M) (c % M)) 0) := by
  have hs := S4.start w a b c
  go_enter Try.func5, Try.ntmps5
  go_wp2_with fail
  refine (ar9 a b c _).mono ?_
  rintro e w1 ⟨s, HS, rfl, hb⟩
  replace hs := hs.call hb
  clear hb
  have hrz := hs.rz
  have hbel := hs.be
  obtain ⟨x0, x1, x2, x3⟩ := row_cells4 hrz
  have fz := hrz.frozen
  go_wp2
  obtain ⟨q0, q1, q2, q3⟩ := row_cells4 (row_put4 hrz (limb s) rfl rfl rfl rfl)
  refine bodyPost_ret (v := .tuple #[wv s, .int .i64 0]) (by simp [results, Try.results5, go_sem, q0, q1, q2, q3]) rfl (ret2_mk (by rw [HS.out]) ?_)
  exact below_put4 hbel (by omega) _ _ _ _
set_option maxRecDepth 100000 in
set_option maxHeartbeats 1000000 in
theorem calc10 (a b c : Nat) (w : World) : Calls Try.prog 5 #[.int .u8 10, wv a, wv b, wv c] w (Ret2 w (fexp (a % M) (b % M)) 0) := by
  have hs := S4.start w a b c
  go_enter Try.func5, Try.ntmps5
  go_wp2_with fail
  refine (ar10 a b c _).mono ?_
  rintro e w1 ⟨s, HS, rfl, hb⟩
  replace hs := hs.call hb
  clear hb
  have hrz := hs.rz
  have hbel := hs.be
  obtain ⟨x0, x1, x2, x3⟩ := row_cells4 hrz
  have fz := hrz.frozen
  go_wp2
  obtain ⟨q0, q1, q2, q3⟩ := row_cells4 (row_put4 hrz (limb s) rfl rfl rfl rfl)
  refine bodyPost_ret (v := .tuple #[wv s, .int .i64 0]) (by simp [results, Try.results5, go_sem, q0, q1, q2, q3]) rfl (ret2_mk (by rw [HS.out]) ?_)
  exact below_put4 hbel (by omega) _ _ _ _
set_option maxRecDepth 100000 in
set_option maxHeartbeats 1000000 in
theorem calc11 (a b c : Nat) (w : World) : Calls Try.prog 5 #[.int .u8 11, wv a, wv b, wv c] w (Ret2 w (fsext (a % M) (b % M)) 0) := by
  have hs := S4.start w a b c
  go_enter Try.func5, Try.ntmps5
  go_wp2_with fail
  refine (ar11 a b c _).mono ?_
  rintro e w1 ⟨s, HS, rfl, hb⟩
  replace hs := hs.call hb
  clear hb
  have hrz := hs.rz
  have hbel := hs.be
  obtain ⟨x0, x1, x2, x3⟩ := row_cells4 hrz
  have fz := hrz.frozen
  go_wp2
  obtain ⟨q0, q1, q2, q3⟩ := row_cells4 (row_put4 hrz (limb s) rfl rfl rfl rfl)
  refine bodyPost_ret (v := .tuple #[wv s, .int .i64 0]) (by simp [results, Try.results5, go_sem, q0, q1, q2, q3]) rfl (ret2_mk (by rw [HS.out]) ?_)
  exact below_put4 hbel (by omega) _ _ _ _
set_option maxRecDepth 100000 in
set_option maxHeartbeats 1000000 in
theorem calc12 (a b c : Nat) (w : World) : Calls Try.prog 5 #[.int .u8 12, wv a, wv b, wv c] w (Ret2 w (0) 1) := by
  have hs := S4.start w a b c
  go_enter Try.func5, Try.ntmps5
  go_wp2_with fail
  refine (co12 a b _).mono ?_
  rintro e w1 ⟨s, HS, rfl, hb⟩
  replace hs := hs.call hb
  clear hb
  have hrz := hs.rz
  have hbel := hs.be
  obtain ⟨x0, x1, x2, x3⟩ := row_cells4 hrz
  have fz := hrz.frozen
  go_wp2
  obtain ⟨q0, q1, q2, q3⟩ := row_cells4 (row_put4 hrz (limb s) rfl rfl rfl rfl)
  refine bodyPost_ret (v := .tuple #[wv s, .int .i64 1]) (by simp [results, Try.results5, go_sem, q0, q1, q2, q3]) rfl (ret2_mk (by rw [HS.out]) ?_)
  exact below_put4 hbel (by omega) _ _ _ _
set_option maxRecDepth 100000 in
set_option maxHeartbeats 1000000 in
theorem calc13 (a b c : Nat) (w : World) : Calls Try.prog 5 #[.int .u8 13, wv a, wv b, wv c] w (Ret2 w (0) 1) := by
  have hs := S4.start w a b c
  go_enter Try.func5, Try.ntmps5
  go_wp2_with fail
  refine (co13 a b _).mono ?_
  rintro e w1 ⟨s, HS, rfl, hb⟩
  replace hs := hs.call hb
  clear hb
  have hrz := hs.rz
  have hbel := hs.be
  obtain ⟨x0, x1, x2, x3⟩ := row_cells4 hrz
  have fz := hrz.frozen
  go_wp2
  obtain ⟨q0, q1, q2, q3⟩ := row_cells4 (row_put4 hrz (limb s) rfl rfl rfl rfl)
  refine bodyPost_ret (v := .tuple #[wv s, .int .i64 1]) (by simp [results, Try.results5, go_sem, q0, q1, q2, q3]) rfl (ret2_mk (by rw [HS.out]) ?_)
  exact below_put4 hbel (by omega) _ _ _ _
set_option maxRecDepth 100000 in
set_option maxHeartbeats 1000000 in
theorem calc14 (a b c : Nat) (w : World) : Calls Try.prog 5 #[.int .u8 14, wv a, wv b, wv c] w (Ret2 w (0) 1) := by
  have hs := S4.start w a b c
  go_enter Try.func5, Try.ntmps5
  go_wp2_with fail
  refine (co14 a b _).mono ?_
  rintro e w1 ⟨s, HS, rfl, hb⟩
  replace hs := hs.call hb
  clear hb
  have hrz := hs.rz
  have hbel := hs.be
  obtain ⟨x0, x1, x2, x3⟩ := row_cells4 hrz
  have fz := hrz.frozen
  go_wp2
  obtain ⟨q0, q1, q2, q3⟩ := row_cells4 (row_put4 hrz (limb s) rfl rfl rfl rfl)
  refine bodyPost_ret (v := .tuple #[wv s, .int .i64 1]) (by simp [results, Try.results5, go_sem, q0, q1, q2, q3]) rfl (ret2_mk (by rw [HS.out]) ?_)
  exact below_put4 hbel (by omega) _ _ _ _
set_option maxRecDepth 100000 in
set_option maxHeartbeats 1000000 in
theorem calc15 (a b c : Nat) (w : World) : Calls Try.prog 5 #[.int .u8 15, wv a, wv b, wv c] w (Ret2 w (0) 1) := by
  have hs := S4.start w a b c
  go_enter Try.func5, Try.ntmps5
  go_wp2_with fail
  refine (co15 a b _).mono ?_
  rintro e w1 ⟨s, HS, rfl, hb⟩
  replace hs := hs.call hb
  clear hb
  have hrz := hs.rz
  have hbel := hs.be
  obtain ⟨x0, x1, x2, x3⟩ := row_cells4 hrz
  have fz := hrz.frozen
  go_wp2
  obtain ⟨q0, q1, q2, q3⟩ := row_cells4 (row_put4 hrz (limb s) rfl rfl rfl rfl)
  refine bodyPost_ret (v := .tuple #[wv s, .int .i64 1]) (by simp [results, Try.results5, go_sem, q0, q1, q2, q3]) rfl (ret2_mk (by rw [HS.out]) ?_)
  exact below_put4 hbel (by omega) _ _ _ _
set_option maxRecDepth 100000 in
set_option maxHeartbeats 1000000 in
theorem calc16 (a b c : Nat) (w : World) : Calls Try.prog 5 #[.int .u8 16, wv a, wv b, wv c] w (Ret2 w (ftruth (decide (a % M < b % M))) 0) := by
  have hs := S4.start w a b c
  go_enter Try.func5, Try.ntmps5
  go_wp2_with fail
  refine (co16 a b _).mono ?_
  rintro e w1 ⟨s, HS, rfl, hb⟩
  replace hs := hs.call hb
  clear hb
  have hrz := hs.rz
  have hbel := hs.be
  obtain ⟨x0, x1, x2, x3⟩ := row_cells4 hrz
  have fz := hrz.frozen
  go_wp2
  obtain ⟨q0, q1, q2, q3⟩ := row_cells4 (row_put4 hrz (limb s) rfl rfl rfl rfl)
  refine bodyPost_ret (v := .tuple #[wv s, .int .i64 0]) (by simp [results, Try.results5, go_sem, q0, q1, q2, q3]) rfl (ret2_mk (by rw [HS.out]) ?_)
  exact below_put4 hbel (by omega) _ _ _ _
set_option maxRecDepth 100000 in
set_option maxHeartbeats 1000000 in
theorem calc17 (a b c : Nat) (w : World) : Calls Try.prog 5 #[.int .u8 17, wv a, wv b, wv c] w (Ret2 w (ftruth (decide (b % M < a % M))) 0) := by
  have hs := S4.start w a b c
  go_enter Try.func5, Try.ntmps5
  go_wp2_with fail
  refine (co17 a b _).mono ?_
  rintro e w1 ⟨s, HS, rfl, hb⟩
  replace hs := hs.call hb
  clear hb
  have hrz := hs.rz
  have hbel := hs.be
  obtain ⟨x0, x1, x2, x3⟩ := row_cells4 hrz
  have fz := hrz.frozen
  go_wp2
  obtain ⟨q0, q1, q2, q3⟩ := row_cells4 (row_put4 hrz (limb s) rfl rfl rfl rfl)
  refine bodyPost_ret (v := .tuple #[wv s, .int .i64 0]) (by simp [results, Try.results5, go_sem, q0, q1, q2, q3]) rfl (ret2_mk (by rw [HS.out]) ?_)
  exact below_put4 hbel (by omega) _ _ _ _
set_option maxRecDepth 100000 in
set_option maxHeartbeats 1000000 in
theorem calc18 (a b c : Nat) (w : World) : Calls Try.prog 5 #[.int .u8 18, wv a, wv b, wv c] w (Ret2 w (ftruth (fslt (a % M) (b % M))) 0) := by
  have hs := S4.start w a b c
  go_enter Try.func5, Try.ntmps5
  go_wp2_with fail
  refine (co18 a b _).mono ?_
  rintro e w1 ⟨s, HS, rfl, hb⟩
  replace hs := hs.call hb
  clear hb
  have hrz := hs.rz
  have hbel := hs.be
  obtain ⟨x0, x1, x2, x3⟩ := row_cells4 hrz
  have fz := hrz.frozen
  go_wp2
  obtain ⟨q0, q1, q2, q3⟩ := row_cells4 (row_put4 hrz (limb s) rfl rfl rfl rfl)
  refine bodyPost_ret (v := .tuple #[wv s, .int .i64 0]) (by simp [results, Try.results5, go_sem, q0, q1, q2, q3]) rfl (ret2_mk (by rw [HS.out]) ?_)
  exact below_put4 hbel (by omega) _ _ _ _
set_option maxRecDepth 100000 in
set_option maxHeartbeats 1000000 in
theorem calc19 (a b c : Nat) (w : World) : Calls Try.prog 5 #[.int .u8 19, wv a, wv b, wv c] w (Ret2 w (ftruth (fslt (b % M) (a % M))) 0) := by
  have hs := S4.start w a b c
  go_enter Try.func5, Try.ntmps5
  go_wp2_with fail
  refine (co19 a b _).mono ?_
  rintro e w1 ⟨s, HS, rfl, hb⟩
  replace hs := hs.call hb
  clear hb
  have hrz := hs.rz
  have hbel := hs.be
  obtain ⟨x0, x1, x2, x3⟩ := row_cells4 hrz
  have fz := hrz.frozen
  go_wp2
  obtain ⟨q0, q1, q2, q3⟩ := row_cells4 (row_put4 hrz (limb s) rfl rfl rfl rfl)
  refine bodyPost_ret (v := .tuple #[wv s, .int .i64 0]) (by simp [results, Try.results5, go_sem, q0, q1, q2, q3]) rfl (ret2_mk (by rw [HS.out]) ?_)
  exact below_put4 hbel (by omega) _ _ _ _
set_option maxRecDepth 100000 in
set_option maxHeartbeats 1000000 in
theorem calc20 (a b c : Nat) (w : World) : Calls Try.prog 5 #[.int .u8 20, wv a, wv b, wv c] w (Ret2 w (ftruth (decide (a % M = b % M))) 0) := by
  have hs := S4.start w a b c
  go_enter Try.func5, Try.ntmps5
  go_wp2_with fail
  refine (co20 a b _).mono ?_
  rintro e w1 ⟨s, HS, rfl, hb⟩
  replace hs := hs.call hb
  clear hb
  have hrz := hs.rz
  have hbel := hs.be
  obtain ⟨x0, x1, x2, x3⟩ := row_cells4 hrz
  have fz := hrz.frozen
  go_wp2
  obtain ⟨q0, q1, q2, q3⟩ := row_cells4 (row_put4 hrz (limb s) rfl rfl rfl rfl)
  refine bodyPost_ret (v := .tuple #[wv s, .int .i64 0]) (by simp [results, Try.results5, go_sem, q0, q1, q2, q3]) rfl (ret2_mk (by rw [HS.out]) ?_)
  exact below_put4 hbel (by omega) _ _ _ _
set_option maxRecDepth 100000 in
set_option maxHeartbeats 1000000 in
theorem calc21 (a b c : Nat) (w : World) : Calls Try.prog 5 #[.int .u8 21, wv a, wv b, wv c] w (Ret2 w (ftruth (decide (a % M = 0))) 0) := by
  have hs := S4.start w a b c
  go_enter Try.func5, Try.ntmps5
  go_wp2_with fail
  refine (co21 a b _).mono ?_
  rintro e w1 ⟨s, HS, rfl, hb⟩
  replace hs := hs.call hb
  clear hb
  have hrz := hs.rz
  have hbel := hs.be
  obtain ⟨x0, x1, x2, x3⟩ := row_cells4 hrz
  have fz := hrz.frozen
  go_wp2
  obtain ⟨q0, q1, q2, q3⟩ := row_cells4 (row_put4 hrz (limb s) rfl rfl rfl rfl)
  refine bodyPost_ret (v := .tuple #[wv s, .int .i64 0]) (by simp [results, Try.results5, go_sem, q0, q1, q2, q3]) rfl (ret2_mk (by rw [HS.out]) ?_)
  exact below_put4 hbel (by omega) _ _ _ _
set_option maxRecDepth 100000 in
set_option maxHeartbeats 1000000 in
theorem calc22 (a b c : Nat) (w : World) : Calls Try.prog 5 #[.int .u8 22, wv a, wv b, wv c] w (Ret2 w (a % M &&& b % M) 0) := by
  have hs := S4.start w a b c
  go_enter Try.func5, Try.ntmps5
  go_wp2_with fail
  refine (bi22 a b _).mono ?_
  rintro e w1 ⟨s, HS, rfl, hb⟩
  replace hs := hs.call hb
  clear hb
  have hrz := hs.rz
  have hbel := hs.be
  obtain ⟨x0, x1, x2, x3⟩ := row_cells4 hrz
  have fz := hrz.frozen
  go_wp2
  obtain ⟨q0, q1, q2, q3⟩ := row_cells4 (row_put4 hrz (limb s) rfl rfl rfl rfl)
  refine bodyPost_ret (v := .tuple #[wv s, .int .i64 0]) (by simp [results, Try.results5, go_sem, q0, q1, q2, q3]) rfl (ret2_mk (by rw [HS.out]) ?_)
  exact below_put4 hbel (by omega) _ _ _ _
set_option maxRecDepth 100000 in
set_option maxHeartbeats 1000000 in
theorem calc23 (a b c : Nat) (w : World) : Calls Try.prog 5 #[.int .u8 23, wv a, wv b, wv c] w (Ret2 w (a % M ||| b % M) 0) := by
  have hs := S4.start w a b c
  go_enter Try.func5, Try.ntmps5
  go_wp2_with fail
  refine (bi23 a b _).mono ?_
  rintro e w1 ⟨s, HS, rfl, hb⟩
  replace hs := hs.call hb
  clear hb
  have hrz := hs.rz
  have hbel := hs.be
  obtain ⟨x0, x1, x2, x3⟩ := row_cells4 hrz
  have fz := hrz.frozen
  go_wp2
  obtain ⟨q0, q1, q2, q3⟩ := row_cells4 (row_put4 hrz (limb s) rfl rfl rfl rfl)
  refine bodyPost_ret (v := .tuple #[wv s, .int .i64 0]) (by simp [results, Try.results5, go_sem, q0, q1, q2, q3]) rfl (ret2_mk (by rw [HS.out]) ?_)
  exact below_put4 hbel (by omega) _ _ _ _
set_option maxRecDepth 100000 in
set_option maxHeartbeats 1000000 in
theorem calc24 (a b c : Nat) (w : World) : Calls Try.prog 5 #[.int .u8 24, wv a, wv b, wv c] w (Ret2 w (a % M ^^^ b % M) 0) := by
  have hs := S4.start w a b c
  go_enter Try.func5, Try.ntmps5
  go_wp2_with fail
  refine (bi24 a b _).mono ?_
  rintro e w1 ⟨s, HS, rfl, hb⟩
  replace hs := hs.call hb
  clear hb
  have hrz := hs.rz
  have hbel := hs.be
  obtain ⟨x0, x1, x2, x3⟩ := row_cells4 hrz
  have fz := hrz.frozen
  go_wp2
  obtain ⟨q0, q1, q2, q3⟩ := row_cells4 (row_put4 hrz (limb s) rfl rfl rfl rfl)
  refine bodyPost_ret (v := .tuple #[wv s, .int .i64 0]) (by simp [results, Try.results5, go_sem, q0, q1, q2, q3]) rfl (ret2_mk (by rw [HS.out]) ?_)
  exact below_put4 hbel (by omega) _ _ _ _
set_option maxRecDepth 100000 in
set_option maxHeartbeats 1000000 in
theorem calc25 (a b c : Nat) (w : World) : Calls Try.prog 5 #[.int .u8 25, wv a, wv b, wv c] w (Ret2 w (fnot (a % M)) 0) := by
  have hs := S4.start w a b c
  go_enter Try.func5, Try.ntmps5
  go_wp2_with fail
  refine (bi25 a b _).mono ?_
  rintro e w1 ⟨s, HS, rfl, hb⟩
  replace hs := hs.call hb
  clear hb
  have hrz := hs.rz
  have hbel := hs.be
  obtain ⟨x0, x1, x2, x3⟩ := row_cells4 hrz
  have fz := hrz.frozen
  go_wp2
  obtain ⟨q0, q1, q2, q3⟩ := row_cells4 (row_put4 hrz (limb s) rfl rfl rfl rfl)
  refine bodyPost_ret (v := .tuple #[wv s, .int .i64 0]) (by simp [results, Try.results5, go_sem, q0, q1, q2, q3]) rfl (ret2_mk (by rw [HS.out]) ?_)
  exact below_put4 hbel (by omega) _ _ _ _
set_option maxRecDepth 100000 in
set_option maxHeartbeats 1000000 in
theorem calc26 (a b c : Nat) (w : World) : Calls Try.prog 5 #[.int .u8 26, wv a, wv b, wv c] w (Ret2 w (fbyte (a % M) (b % M)) 0) := by
  have hs := S4.start w a b c
  go_enter Try.func5, Try.ntmps5
  go_wp2_with fail
  refine (bi26 a b _).mono ?_
  rintro e w1 ⟨s, HS, rfl, hb⟩
  replace hs := hs.call hb
  clear hb
  have hrz := hs.rz
  have hbel := hs.be
  obtain ⟨x0, x1, x2, x3⟩ := row_cells4 hrz
  have fz := hrz.frozen
  go_wp2
  obtain ⟨q0, q1, q2, q3⟩ := row_cells4 (row_put4 hrz (limb s) rfl rfl rfl rfl)
  refine bodyPost_ret (v := .tuple #[wv s, .int .i64 0]) (by simp [results, Try.results5, go_sem, q0, q1, q2, q3]) rfl (ret2_mk (by rw [HS.out]) ?_)
  exact below_put4 hbel (by omega) _ _ _ _
set_option maxRecDepth 100000 in
set_option maxHeartbeats 1000000 in
theorem calc27 (a b c : Nat) (w : World) : Calls Try.prog 5 #[.int .u8 27, wv a, wv b, wv c] w (Ret2 w (fshl (a % M) (b % M)) 0) := by
  have hs := S4.start w a b c
  go_enter Try.func5, Try.ntmps5
  go_wp2_with fail
  refine (bi27 a b _).mono ?_
  rintro e w1 ⟨s, HS, rfl, hb⟩
  replace hs := hs.call hb
  clear hb
  have hrz := hs.rz
  have hbel := hs.be
  obtain ⟨x0, x1, x2, x3⟩ := row_cells4 hrz
  have fz := hrz.frozen
  go_wp2
  obtain ⟨q0, q1, q2, q3⟩ := row_cells4 (row_put4 hrz (limb s) rfl rfl rfl rfl)
  refine bodyPost_ret (v := .tuple #[wv s, .int .i64 0]) (by simp [results, Try.results5, go_sem, q0, q1, q2, q3]) rfl (ret2_mk (by rw [HS.out]) ?_)
  exact below_put4 hbel (by omega) _ _ _ _
set_option maxRecDepth 100000 in
set_option maxHeartbeats 1000000 in
theorem calc28 (a b c : Nat) (w : World) : Calls Try.prog 5 #[.int .u8 28, wv a, wv b, wv c] w (Ret2 w (fshr (a % M) (b % M)) 0) := by
  have hs := S4.start w a b c
  go_enter Try.func5, Try.ntmps5
  go_wp2_with fail
  refine (bi28 a b _).mono ?_
  rintro e w1 ⟨s, HS, rfl, hb⟩
  replace hs := hs.call hb
  clear hb
  have hrz := hs.rz
  have hbel := hs.be
  obtain ⟨x0, x1, x2, x3⟩ := row_cells4 hrz
  have fz := hrz.frozen
  go_wp2
  obtain ⟨q0, q1, q2, q3⟩ := row_cells4 (row_put4 hrz (limb s) rfl rfl rfl rfl)
  refine bodyPost_ret (v := .tuple #[wv s, .int .i64 0]) (by simp [results, Try.results5, go_sem, q0, q1, q2, q3]) rfl (ret2_mk (by rw [HS.out]) ?_)
  exact below_put4 hbel (by omega) _ _ _ _
set_option maxRecDepth 100000 in
set_option maxHeartbeats 1000000 in
theorem calc29 (a b c : Nat) (w : World) : Calls Try.prog 5 #[.int .u8 29, wv a, wv b, wv c] w (Ret2 w (fsar (a % M) (b % M)) 0) := by
  have hs := S4.start w a b c
  go_enter Try.func5, Try.ntmps5
  go_wp2_with fail
  refine (bi29 a b _).mono ?_
  rintro e w1 ⟨s, HS, rfl, hb⟩
  replace hs := hs.call hb
  clear hb
  have hrz := hs.rz
  have hbel := hs.be
  obtain ⟨x0, x1, x2, x3⟩ := row_cells4 hrz
  have fz := hrz.frozen
  go_wp2
  obtain ⟨q0, q1, q2, q3⟩ := row_cells4 (row_put4 hrz (limb s) rfl rfl rfl rfl)
  refine bodyPost_ret (v := .tuple #[wv s, .int .i64 0]) (by simp [results, Try.results5, go_sem, q0, q1, q2, q3]) rfl (ret2_mk (by rw [HS.out]) ?_)
  exact below_put4 hbel (by omega) _ _ _ _
set_option maxRecDepth 100000 in
set_option maxHeartbeats 1000000 in
theorem calcX (op : Nat) (ho : 30 ≤ op) (ho2 : op ≤ 255) (a b c : Nat) (w : World) : Calls Try.prog 5 #[.int .u8 (op : Int), wv a, wv b, wv c] w (Ret2 w (0) 1) := by
  have hs := S4.start w a b c
  go_enter Try.func5, Try.ntmps5
  go_wp2_with fail
  refine (biX op ho ho2 a b _).mono ?_
  rintro e w1 ⟨s, HS, rfl, hb⟩
  replace hs := hs.call hb
  clear hb
  have hrz := hs.rz
  have hbel := hs.be
  obtain ⟨x0, x1, x2, x3⟩ := row_cells4 hrz
  have fz := hrz.frozen
  go_wp2
  obtain ⟨q0, q1, q2, q3⟩ := row_cells4 (row_put4 hrz (limb s) rfl rfl rfl rfl)
  refine bodyPost_ret (v := .tuple #[wv s, .int .i64 1]) (by simp [results, Try.results5, go_sem, q0, q1, q2, q3]) rfl (ret2_mk (by rw [HS.out]) ?_)
  exact below_put4 hbel (by omega) _ _ _ _
theorem op_cases (op : Nat) : op = 0 ∨ op = 1 ∨ op = 2 ∨ op = 3 ∨ op = 4 ∨ op = 5 ∨ op = 6 ∨ op = 7 ∨ op = 8 ∨ op = 9 ∨ op = 10 ∨ op = 11 ∨ op = 12 ∨ op = 13 ∨ op = 14 ∨ op = 15 ∨ op = 16 ∨ op = 17 ∨ op = 18 ∨ op = 19 ∨ op = 20 ∨ op = 21 ∨ op = 22 ∨ op = 23 ∨ op = 24 ∨ op = 25 ∨ op = 26 ∨ op = 27 ∨ op = 28 ∨ op = 29 ∨ 30 ≤ op := by omega
theorem fcalc_out (op a b c : Nat) (h : 30 ≤ op) : fcalc op a b c = 0 := by
  unfold fcalc
  repeat rw [if_neg (by omega)]
theorem ferr_out (op : Nat) (h : 30 ≤ op) : ferr op = 1 := by unfold ferr; rw [if_neg (by omega)]
/-- P3: every operation, of any words -/
theorem calc_any (op : Nat) (ho : op ≤ 255) (a b c : Nat) (w : World) : Calls Try.prog 5 #[.int .u8 (op : Int), wv a, wv b, wv c] w (Ret2 w (fcalc op (a % M) (b % M) (c % M)) (ferr op)) := by
  rcases op_cases op with rfl | rfl | rfl | rfl | rfl | rfl | rfl | rfl | rfl | rfl | rfl | rfl | rfl | rfl | rfl | rfl | rfl | rfl | rfl | rfl | rfl | rfl | rfl | rfl | rfl | rfl | rfl | rfl | rfl | rfl | h
  · rw [show fcalc 0 (a % M) (b % M) (c % M) = 0 by simp [fcalc], show ferr 0 = 1 by decide]; exact calc0 a b c w
  · rw [show fcalc 1 (a % M) (b % M) (c % M) = fadd (a % M) (b % M) by simp [fcalc], show ferr 1 = 0 by decide]; exact calc1 a b c w
  · rw [show fcalc 2 (a % M) (b % M) (c % M) = fmul (a % M) (b % M) by simp [fcalc], show ferr 2 = 0 by decide]; exact calc2 a b c w
  · rw [show fcalc 3 (a % M) (b % M) (c % M) = fsub (a % M) (b % M) by simp [fcalc], show ferr 3 = 0 by decide]; exact calc3 a b c w
  · rw [show fcalc 4 (a % M) (b % M) (c % M) = fdiv (a % M) (b % M) by simp [fcalc], show ferr 4 = 0 by decide]; exact calc4 a b c w
  · rw [show fcalc 5 (a % M) (b % M) (c % M) = fsdiv (a % M) (b % M) by simp [fcalc], show ferr 5 = 0 by decide]; exact calc5 a b c w
  · rw [show fcalc 6 (a % M) (b % M) (c % M) = fmod (a % M) (b % M) by simp [fcalc], show ferr 6 = 0 by decide]; exact calc6 a b c w
  · rw [show fcalc 7 (a % M) (b % M) (c % M) = fsmod (a % M) (b % M) by simp [fcalc], show ferr 7 = 0 by decide]; exact calc7 a b c w
  · rw [show fcalc 8 (a % M) (b % M) (c % M) = faddmod (a % M) (b % M) (c % M) by simp [fcalc], show ferr 8 = 0 by decide]; exact calc8 a b c w
  · rw [show fcalc 9 (a % M) (b % M) (c % M) = fmulmod (a % M) (b % M) (c % M) by simp [fcalc], show ferr 9 = 0 by decide]; exact calc9 a b c w
  · rw [show fcalc 10 (a % M) (b % M) (c % M) = fexp (a % M) (b % M) by simp [fcalc], show ferr 10 = 0 by decide]; exact calc10 a b c w
  · rw [show fcalc 11 (a % M) (b % M) (c % M) = fsext (a % M) (b % M) by simp [fcalc], show ferr 11 = 0 by decide]; exact calc11 a b c w
  · rw [show fcalc 12 (a % M) (b % M) (c % M) = 0 by simp [fcalc], show ferr 12 = 1 by decide]; exact calc12 a b c w
  · rw [show fcalc 13 (a % M) (b % M) (c % M) = 0 by simp [fcalc], show ferr 13 = 1 by decide]; exact calc13 a b c w
  · rw [show fcalc 14 (a % M) (b % M) (c % M) = 0 by simp [fcalc], show ferr 14 = 1 by decide]; exact calc14 a b c w
  · rw [show fcalc 15 (a % M) (b % M) (c % M) = 0 by simp [fcalc], show ferr 15 = 1 by decide]; exact calc15 a b c w
  · rw [show fcalc 16 (a % M) (b % M) (c % M) = ftruth (decide (a % M < b % M)) by simp [fcalc], show ferr 16 = 0 by decide]; exact calc16 a b c w
  · rw [show fcalc 17 (a % M) (b % M) (c % M) = ftruth (decide (b % M < a % M)) by simp [fcalc], show ferr 17 = 0 by decide]; exact calc17 a b c w
  · rw [show fcalc 18 (a % M) (b % M) (c % M) = ftruth (fslt (a % M) (b % M)) by simp [fcalc], show ferr 18 = 0 by decide]; exact calc18 a b c w
  · rw [show fcalc 19 (a % M) (b % M) (c % M) = ftruth (fslt (b % M) (a % M)) by simp [fcalc], show ferr 19 = 0 by decide]; exact calc19 a b c w
  · rw [show fcalc 20 (a % M) (b % M) (c % M) = ftruth (decide (a % M = b % M)) by simp [fcalc], show ferr 20 = 0 by decide]; exact calc20 a b c w
  · rw [show fcalc 21 (a % M) (b % M) (c % M) = ftruth (decide (a % M = 0)) by simp [fcalc], show ferr 21 = 0 by decide]; exact calc21 a b c w
  · rw [show fcalc 22 (a % M) (b % M) (c % M) = a % M &&& b % M by simp [fcalc], show ferr 22 = 0 by decide]; exact calc22 a b c w
  · rw [show fcalc 23 (a % M) (b % M) (c % M) = a % M ||| b % M by simp [fcalc], show ferr 23 = 0 by decide]; exact calc23 a b c w
  · rw [show fcalc 24 (a % M) (b % M) (c % M) = a % M ^^^ b % M by simp [fcalc], show ferr 24 = 0 by decide]; exact calc24 a b c w
  · rw [show fcalc 25 (a % M) (b % M) (c % M) = fnot (a % M) by simp [fcalc], show ferr 25 = 0 by decide]; exact calc25 a b c w
  · rw [show fcalc 26 (a % M) (b % M) (c % M) = fbyte (a % M) (b % M) by simp [fcalc], show ferr 26 = 0 by decide]; exact calc26 a b c w
  · rw [show fcalc 27 (a % M) (b % M) (c % M) = fshl (a % M) (b % M) by simp [fcalc], show ferr 27 = 0 by decide]; exact calc27 a b c w
  · rw [show fcalc 28 (a % M) (b % M) (c % M) = fshr (a % M) (b % M) by simp [fcalc], show ferr 28 = 0 by decide]; exact calc28 a b c w
  · rw [show fcalc 29 (a % M) (b % M) (c % M) = fsar (a % M) (b % M) by simp [fcalc], show ferr 29 = 0 by decide]; exact calc29 a b c w
  · rw [fcalc_out _ _ _ _ h, ferr_out _ h]; exact calcX op h ho a b c w
end cin
end Go.Proofs.Ytohoajjdoihekaa
