/-
  The walk of the document's answer: Calc, the operations that are one call.
-/
import Derived.Test.YtohoajjdoihekaaRj
set_option linter.unusedVariables false
set_option linter.unusedSimpArgs false
namespace Go.Proofs.Ytohoajjdoihekaa
open Go.RowKit
namespace cin
set_option maxRecDepth 100000 in
set_option maxHeartbeats 8000000 in
theorem rcalc1 (a b c : Nat) (ha : Hid (a < M)) (hb0 : Hid (b < M)) (hc0 : Hid (c < M)) (w : World) : Calls Try.prog 6 #[.int .u8 1, wv a, wv b, wv c] w (Ret2 w (fcalc 1 a b c) 0) := by
  have hs := RC.start w a b c
  go_enter Try.func6, Try.ntmps6
  go_wp2_with fail
  refine (rsmall_any 0 (by omega) _).mono ?_
  rintro e w1 ⟨z, HZ, rfl, hb⟩
  replace hs := hs.call hb
  clear hb
  obtain ⟨a0, a1, a2, a3⟩ := row_cells4 hs.ra
  have al := (hs.ra).lt
  obtain ⟨b0, b1, b2, b3⟩ := row_cells4 hs.rb
  have bl := (hs.rb).lt
  go_wp2_with fail
  refine (radd_any a b _).mono ?_
  rintro e w2 ⟨s, HS, rfl, hb⟩
  replace hs := (hs.alloc _).call hb
  clear a0 a1 a2 a3 al b0 b1 b2 b3 bl
  clear hb
  have hrz := hs.rz
  have hbel := hs.be
  obtain ⟨x0, x1, x2, x3⟩ := row_cells4 hrz
  have fz := hrz.frozen
  go_wp2
  obtain ⟨q0, q1, q2, q3⟩ := row_cells4 (row_put4 hrz (limb s) rfl rfl rfl rfl)
  refine bodyPost_ret (v := .tuple #[wv s, .int .i64 0]) (by simp [results, Try.results6, go_sem, q0, q1, q2, q3]) rfl (ret2_mk (by rw [HS.out, Nat.mod_eq_of_lt ha.out, Nat.mod_eq_of_lt hb0.out]; simp [fcalc]) ?_)
  exact below_put4 hbel (by omega) _ _ _ _
set_option maxRecDepth 100000 in
set_option maxHeartbeats 8000000 in
theorem rcalc3 (a b c : Nat) (ha : Hid (a < M)) (hb0 : Hid (b < M)) (hc0 : Hid (c < M)) (w : World) : Calls Try.prog 6 #[.int .u8 3, wv a, wv b, wv c] w (Ret2 w (fcalc 3 a b c) 0) := by
  have hs := RC.start w a b c
  go_enter Try.func6, Try.ntmps6
  go_wp2_with fail
  refine (rsmall_any 0 (by omega) _).mono ?_
  rintro e w1 ⟨z, HZ, rfl, hb⟩
  replace hs := hs.call hb
  clear hb
  obtain ⟨a0, a1, a2, a3⟩ := row_cells4 hs.ra
  have al := (hs.ra).lt
  obtain ⟨b0, b1, b2, b3⟩ := row_cells4 hs.rb
  have bl := (hs.rb).lt
  go_wp2_with fail
  refine (rsub_any a b _).mono ?_
  rintro e w2 ⟨s, HS, rfl, hb⟩
  replace hs := (hs.alloc _).call hb
  clear a0 a1 a2 a3 al b0 b1 b2 b3 bl
  clear hb
  have hrz := hs.rz
  have hbel := hs.be
  obtain ⟨x0, x1, x2, x3⟩ := row_cells4 hrz
  have fz := hrz.frozen
  go_wp2
  obtain ⟨q0, q1, q2, q3⟩ := row_cells4 (row_put4 hrz (limb s) rfl rfl rfl rfl)
  refine bodyPost_ret (v := .tuple #[wv s, .int .i64 0]) (by simp [results, Try.results6, go_sem, q0, q1, q2, q3]) rfl (ret2_mk (by rw [HS.out, Nat.mod_eq_of_lt ha.out, Nat.mod_eq_of_lt hb0.out]; simp [fcalc]) ?_)
  exact below_put4 hbel (by omega) _ _ _ _
set_option maxRecDepth 100000 in
set_option maxHeartbeats 8000000 in
theorem rcalc4 (a b c : Nat) (ha : Hid (a < M)) (hb0 : Hid (b < M)) (hc0 : Hid (c < M)) (w : World) : Calls Try.prog 6 #[.int .u8 4, wv a, wv b, wv c] w (Ret2 w (fcalc 4 a b c) 0) := by
  have hs := RC.start w a b c
  go_enter Try.func6, Try.ntmps6
  go_wp2_with fail
  refine (rsmall_any 0 (by omega) _).mono ?_
  rintro e w1 ⟨z, HZ, rfl, hb⟩
  replace hs := hs.call hb
  clear hb
  obtain ⟨a0, a1, a2, a3⟩ := row_cells4 hs.ra
  have al := (hs.ra).lt
  obtain ⟨b0, b1, b2, b3⟩ := row_cells4 hs.rb
  have bl := (hs.rb).lt
  obtain ⟨c0, c1, c2, c3⟩ := row_cells4 hs.rc
  have cl := (hs.rc).lt
  go_wp2_with fail
  refine (rdiv_any a b c ha hb0 hc0 _).mono ?_
  rintro e w2 ⟨s, HS, rfl, hb⟩
  replace hs := (hs.alloc _).call hb
  clear a0 a1 a2 a3 al b0 b1 b2 b3 bl c0 c1 c2 c3 cl
  clear hb
  have hrz := hs.rz
  have hbel := hs.be
  obtain ⟨x0, x1, x2, x3⟩ := row_cells4 hrz
  have fz := hrz.frozen
  go_wp2
  obtain ⟨q0, q1, q2, q3⟩ := row_cells4 (row_put4 hrz (limb s) rfl rfl rfl rfl)
  refine bodyPost_ret (v := .tuple #[wv s, .int .i64 0]) (by simp [results, Try.results6, go_sem, q0, q1, q2, q3]) rfl (ret2_mk (by rw [HS.out]; simp [fcalc]) ?_)
  exact below_put4 hbel (by omega) _ _ _ _
set_option maxRecDepth 100000 in
set_option maxHeartbeats 8000000 in
theorem rcalc5 (a b c : Nat) (ha : Hid (a < M)) (hb0 : Hid (b < M)) (hc0 : Hid (c < M)) (w : World) : Calls Try.prog 6 #[.int .u8 5, wv a, wv b, wv c] w (Ret2 w (fcalc 5 a b c) 0) := by
  have hs := RC.start w a b c
  go_enter Try.func6, Try.ntmps6
  go_wp2_with fail
  refine (rsmall_any 0 (by omega) _).mono ?_
  rintro e w1 ⟨z, HZ, rfl, hb⟩
  replace hs := hs.call hb
  clear hb
  obtain ⟨a0, a1, a2, a3⟩ := row_cells4 hs.ra
  have al := (hs.ra).lt
  obtain ⟨b0, b1, b2, b3⟩ := row_cells4 hs.rb
  have bl := (hs.rb).lt
  obtain ⟨c0, c1, c2, c3⟩ := row_cells4 hs.rc
  have cl := (hs.rc).lt
  go_wp2_with fail
  refine (rsdiv_any a b c ha hb0 hc0 _).mono ?_
  rintro e w2 ⟨s, HS, rfl, hb⟩
  replace hs := (hs.alloc _).call hb
  clear a0 a1 a2 a3 al b0 b1 b2 b3 bl c0 c1 c2 c3 cl
  clear hb
  have hrz := hs.rz
  have hbel := hs.be
  obtain ⟨x0, x1, x2, x3⟩ := row_cells4 hrz
  have fz := hrz.frozen
  go_wp2
  obtain ⟨q0, q1, q2, q3⟩ := row_cells4 (row_put4 hrz (limb s) rfl rfl rfl rfl)
  refine bodyPost_ret (v := .tuple #[wv s, .int .i64 0]) (by simp [results, Try.results6, go_sem, q0, q1, q2, q3]) rfl (ret2_mk (by rw [HS.out]; simp [fcalc]) ?_)
  exact below_put4 hbel (by omega) _ _ _ _
set_option maxRecDepth 100000 in
set_option maxHeartbeats 8000000 in
theorem rcalc6 (a b c : Nat) (ha : Hid (a < M)) (hb0 : Hid (b < M)) (hc0 : Hid (c < M)) (w : World) : Calls Try.prog 6 #[.int .u8 6, wv a, wv b, wv c] w (Ret2 w (fcalc 6 a b c) 0) := by
  have hs := RC.start w a b c
  go_enter Try.func6, Try.ntmps6
  go_wp2_with fail
  refine (rsmall_any 0 (by omega) _).mono ?_
  rintro e w1 ⟨z, HZ, rfl, hb⟩
  replace hs := hs.call hb
  clear hb
  obtain ⟨a0, a1, a2, a3⟩ := row_cells4 hs.ra
  have al := (hs.ra).lt
  obtain ⟨b0, b1, b2, b3⟩ := row_cells4 hs.rb
  have bl := (hs.rb).lt
  obtain ⟨c0, c1, c2, c3⟩ := row_cells4 hs.rc
  have cl := (hs.rc).lt
  go_wp2_with fail
  refine (rmod_any a b c ha hb0 hc0 _).mono ?_
  rintro e w2 ⟨s, HS, rfl, hb⟩
  replace hs := (hs.alloc _).call hb
  clear a0 a1 a2 a3 al b0 b1 b2 b3 bl c0 c1 c2 c3 cl
  clear hb
  have hrz := hs.rz
  have hbel := hs.be
  obtain ⟨x0, x1, x2, x3⟩ := row_cells4 hrz
  have fz := hrz.frozen
  go_wp2
  obtain ⟨q0, q1, q2, q3⟩ := row_cells4 (row_put4 hrz (limb s) rfl rfl rfl rfl)
  refine bodyPost_ret (v := .tuple #[wv s, .int .i64 0]) (by simp [results, Try.results6, go_sem, q0, q1, q2, q3]) rfl (ret2_mk (by rw [HS.out]; simp [fcalc]) ?_)
  exact below_put4 hbel (by omega) _ _ _ _
set_option maxRecDepth 100000 in
set_option maxHeartbeats 8000000 in
theorem rcalc7 (a b c : Nat) (ha : Hid (a < M)) (hb0 : Hid (b < M)) (hc0 : Hid (c < M)) (w : World) : Calls Try.prog 6 #[.int .u8 7, wv a, wv b, wv c] w (Ret2 w (fcalc 7 a b c) 0) := by
  have hs := RC.start w a b c
  go_enter Try.func6, Try.ntmps6
  go_wp2_with fail
  refine (rsmall_any 0 (by omega) _).mono ?_
  rintro e w1 ⟨z, HZ, rfl, hb⟩
  replace hs := hs.call hb
  clear hb
  obtain ⟨a0, a1, a2, a3⟩ := row_cells4 hs.ra
  have al := (hs.ra).lt
  obtain ⟨b0, b1, b2, b3⟩ := row_cells4 hs.rb
  have bl := (hs.rb).lt
  obtain ⟨c0, c1, c2, c3⟩ := row_cells4 hs.rc
  have cl := (hs.rc).lt
  go_wp2_with fail
  refine (rsmod_any a b c ha hb0 hc0 _).mono ?_
  rintro e w2 ⟨s, HS, rfl, hb⟩
  replace hs := (hs.alloc _).call hb
  clear a0 a1 a2 a3 al b0 b1 b2 b3 bl c0 c1 c2 c3 cl
  clear hb
  have hrz := hs.rz
  have hbel := hs.be
  obtain ⟨x0, x1, x2, x3⟩ := row_cells4 hrz
  have fz := hrz.frozen
  go_wp2
  obtain ⟨q0, q1, q2, q3⟩ := row_cells4 (row_put4 hrz (limb s) rfl rfl rfl rfl)
  refine bodyPost_ret (v := .tuple #[wv s, .int .i64 0]) (by simp [results, Try.results6, go_sem, q0, q1, q2, q3]) rfl (ret2_mk (by rw [HS.out]; simp [fcalc]) ?_)
  exact below_put4 hbel (by omega) _ _ _ _
set_option maxRecDepth 100000 in
set_option maxHeartbeats 8000000 in
theorem rcalc8 (a b c : Nat) (ha : Hid (a < M)) (hb0 : Hid (b < M)) (hc0 : Hid (c < M)) (w : World) : Calls Try.prog 6 #[.int .u8 8, wv a, wv b, wv c] w (Ret2 w (fcalc 8 a b c) 0) := by
  have hs := RC.start w a b c
  go_enter Try.func6, Try.ntmps6
  go_wp2_with fail
  refine (rsmall_any 0 (by omega) _).mono ?_
  rintro e w1 ⟨z, HZ, rfl, hb⟩
  replace hs := hs.call hb
  clear hb
  obtain ⟨a0, a1, a2, a3⟩ := row_cells4 hs.ra
  have al := (hs.ra).lt
  obtain ⟨b0, b1, b2, b3⟩ := row_cells4 hs.rb
  have bl := (hs.rb).lt
  obtain ⟨c0, c1, c2, c3⟩ := row_cells4 hs.rc
  have cl := (hs.rc).lt
  go_wp2_with fail
  refine (raddmod_any a b c ha hb0 hc0 _).mono ?_
  rintro e w2 ⟨s, HS, rfl, hb⟩
  replace hs := (hs.alloc _).call hb
  clear a0 a1 a2 a3 al b0 b1 b2 b3 bl c0 c1 c2 c3 cl
  clear hb
  have hrz := hs.rz
  have hbel := hs.be
  obtain ⟨x0, x1, x2, x3⟩ := row_cells4 hrz
  have fz := hrz.frozen
  go_wp2
  obtain ⟨q0, q1, q2, q3⟩ := row_cells4 (row_put4 hrz (limb s) rfl rfl rfl rfl)
  refine bodyPost_ret (v := .tuple #[wv s, .int .i64 0]) (by simp [results, Try.results6, go_sem, q0, q1, q2, q3]) rfl (ret2_mk (by rw [HS.out]; simp [fcalc]) ?_)
  exact below_put4 hbel (by omega) _ _ _ _
set_option maxRecDepth 100000 in
set_option maxHeartbeats 8000000 in
theorem rcalc9 (a b c : Nat) (ha : Hid (a < M)) (hb0 : Hid (b < M)) (hc0 : Hid (c < M)) (w : World) : Calls Try.prog 6 #[.int .u8 9, wv a, wv b, wv c] w (Ret2 w (fcalc 9 a b c) 0) := by
  have hs := RC.start w a b c
  go_enter Try.func6, Try.ntmps6
  go_wp2_with fail
  refine (rsmall_any 0 (by omega) _).mono ?_
  rintro e w1 ⟨z, HZ, rfl, hb⟩
  replace hs := hs.call hb
  clear hb
  obtain ⟨a0, a1, a2, a3⟩ := row_cells4 hs.ra
  have al := (hs.ra).lt
  obtain ⟨b0, b1, b2, b3⟩ := row_cells4 hs.rb
  have bl := (hs.rb).lt
  obtain ⟨c0, c1, c2, c3⟩ := row_cells4 hs.rc
  have cl := (hs.rc).lt
  go_wp2_with fail
  refine (rmulmod_any a b c ha hb0 hc0 _).mono ?_
  rintro e w2 ⟨s, HS, rfl, hb⟩
  replace hs := (hs.alloc _).call hb
  clear a0 a1 a2 a3 al b0 b1 b2 b3 bl c0 c1 c2 c3 cl
  clear hb
  have hrz := hs.rz
  have hbel := hs.be
  obtain ⟨x0, x1, x2, x3⟩ := row_cells4 hrz
  have fz := hrz.frozen
  go_wp2
  obtain ⟨q0, q1, q2, q3⟩ := row_cells4 (row_put4 hrz (limb s) rfl rfl rfl rfl)
  refine bodyPost_ret (v := .tuple #[wv s, .int .i64 0]) (by simp [results, Try.results6, go_sem, q0, q1, q2, q3]) rfl (ret2_mk (by rw [HS.out]; simp [fcalc]) ?_)
  exact below_put4 hbel (by omega) _ _ _ _
set_option maxRecDepth 100000 in
set_option maxHeartbeats 8000000 in
theorem rcalc10 (a b c : Nat) (ha : Hid (a < M)) (hb0 : Hid (b < M)) (hc0 : Hid (c < M)) (w : World) : Calls Try.prog 6 #[.int .u8 10, wv a, wv b, wv c] w (Ret2 w (fcalc 10 a b c) 0) := by
  have hs := RC.start w a b c
  go_enter Try.func6, Try.ntmps6
  go_wp2_with fail
  refine (rsmall_any 0 (by omega) _).mono ?_
  rintro e w1 ⟨z, HZ, rfl, hb⟩
  replace hs := hs.call hb
  clear hb
  obtain ⟨a0, a1, a2, a3⟩ := row_cells4 hs.ra
  have al := (hs.ra).lt
  obtain ⟨b0, b1, b2, b3⟩ := row_cells4 hs.rb
  have bl := (hs.rb).lt
  go_wp2_with fail
  refine (rpower_any a b _).mono ?_
  rintro e w2 ⟨s, HS, rfl, hb⟩
  replace hs := (hs.alloc _).call hb
  clear a0 a1 a2 a3 al b0 b1 b2 b3 bl
  clear hb
  have hrz := hs.rz
  have hbel := hs.be
  obtain ⟨x0, x1, x2, x3⟩ := row_cells4 hrz
  have fz := hrz.frozen
  go_wp2
  obtain ⟨q0, q1, q2, q3⟩ := row_cells4 (row_put4 hrz (limb s) rfl rfl rfl rfl)
  refine bodyPost_ret (v := .tuple #[wv s, .int .i64 0]) (by simp [results, Try.results6, go_sem, q0, q1, q2, q3]) rfl (ret2_mk (by rw [HS.out, Nat.mod_eq_of_lt ha.out, Nat.mod_eq_of_lt hb0.out]; simp [fcalc]) ?_)
  exact below_put4 hbel (by omega) _ _ _ _
set_option maxRecDepth 100000 in
set_option maxHeartbeats 8000000 in
theorem rcalc22 (a b c : Nat) (ha : Hid (a < M)) (hb0 : Hid (b < M)) (hc0 : Hid (c < M)) (w : World) : Calls Try.prog 6 #[.int .u8 22, wv a, wv b, wv c] w (Ret2 w (fcalc 22 a b c) 0) := by
  have hs := RC.start w a b c
  go_enter Try.func6, Try.ntmps6
  go_wp2_with fail
  refine (rsmall_any 0 (by omega) _).mono ?_
  rintro e w1 ⟨z, HZ, rfl, hb⟩
  replace hs := hs.call hb
  clear hb
  obtain ⟨a0, a1, a2, a3⟩ := row_cells4 hs.ra
  have al := (hs.ra).lt
  obtain ⟨b0, b1, b2, b3⟩ := row_cells4 hs.rb
  have bl := (hs.rb).lt
  go_wp2_with fail
  refine (rand_any a b ha hb0 _).mono ?_
  rintro e w2 ⟨s, HS, rfl, hb⟩
  replace hs := (hs.alloc _).call hb
  clear a0 a1 a2 a3 al b0 b1 b2 b3 bl
  clear hb
  have hrz := hs.rz
  have hbel := hs.be
  obtain ⟨x0, x1, x2, x3⟩ := row_cells4 hrz
  have fz := hrz.frozen
  go_wp2
  obtain ⟨q0, q1, q2, q3⟩ := row_cells4 (row_put4 hrz (limb s) rfl rfl rfl rfl)
  refine bodyPost_ret (v := .tuple #[wv s, .int .i64 0]) (by simp [results, Try.results6, go_sem, q0, q1, q2, q3]) rfl (ret2_mk (by rw [HS.out]; simp [fcalc]) ?_)
  exact below_put4 hbel (by omega) _ _ _ _
set_option maxRecDepth 100000 in
set_option maxHeartbeats 8000000 in
theorem rcalc23 (a b c : Nat) (ha : Hid (a < M)) (hb0 : Hid (b < M)) (hc0 : Hid (c < M)) (w : World) : Calls Try.prog 6 #[.int .u8 23, wv a, wv b, wv c] w (Ret2 w (fcalc 23 a b c) 0) := by
  have hs := RC.start w a b c
  go_enter Try.func6, Try.ntmps6
  go_wp2_with fail
  refine (rsmall_any 0 (by omega) _).mono ?_
  rintro e w1 ⟨z, HZ, rfl, hb⟩
  replace hs := hs.call hb
  clear hb
  obtain ⟨a0, a1, a2, a3⟩ := row_cells4 hs.ra
  have al := (hs.ra).lt
  obtain ⟨b0, b1, b2, b3⟩ := row_cells4 hs.rb
  have bl := (hs.rb).lt
  go_wp2_with fail
  refine (ror_any a b ha hb0 _).mono ?_
  rintro e w2 ⟨s, HS, rfl, hb⟩
  replace hs := (hs.alloc _).call hb
  clear a0 a1 a2 a3 al b0 b1 b2 b3 bl
  clear hb
  have hrz := hs.rz
  have hbel := hs.be
  obtain ⟨x0, x1, x2, x3⟩ := row_cells4 hrz
  have fz := hrz.frozen
  go_wp2
  obtain ⟨q0, q1, q2, q3⟩ := row_cells4 (row_put4 hrz (limb s) rfl rfl rfl rfl)
  refine bodyPost_ret (v := .tuple #[wv s, .int .i64 0]) (by simp [results, Try.results6, go_sem, q0, q1, q2, q3]) rfl (ret2_mk (by rw [HS.out]; simp [fcalc]) ?_)
  exact below_put4 hbel (by omega) _ _ _ _
set_option maxRecDepth 100000 in
set_option maxHeartbeats 8000000 in
theorem rcalc24 (a b c : Nat) (ha : Hid (a < M)) (hb0 : Hid (b < M)) (hc0 : Hid (c < M)) (w : World) : Calls Try.prog 6 #[.int .u8 24, wv a, wv b, wv c] w (Ret2 w (fcalc 24 a b c) 0) := by
  have hs := RC.start w a b c
  go_enter Try.func6, Try.ntmps6
  go_wp2_with fail
  refine (rsmall_any 0 (by omega) _).mono ?_
  rintro e w1 ⟨z, HZ, rfl, hb⟩
  replace hs := hs.call hb
  clear hb
  obtain ⟨a0, a1, a2, a3⟩ := row_cells4 hs.ra
  have al := (hs.ra).lt
  obtain ⟨b0, b1, b2, b3⟩ := row_cells4 hs.rb
  have bl := (hs.rb).lt
  go_wp2_with fail
  refine (rxor_any a b ha hb0 _).mono ?_
  rintro e w2 ⟨s, HS, rfl, hb⟩
  replace hs := (hs.alloc _).call hb
  clear a0 a1 a2 a3 al b0 b1 b2 b3 bl
  clear hb
  have hrz := hs.rz
  have hbel := hs.be
  obtain ⟨x0, x1, x2, x3⟩ := row_cells4 hrz
  have fz := hrz.frozen
  go_wp2
  obtain ⟨q0, q1, q2, q3⟩ := row_cells4 (row_put4 hrz (limb s) rfl rfl rfl rfl)
  refine bodyPost_ret (v := .tuple #[wv s, .int .i64 0]) (by simp [results, Try.results6, go_sem, q0, q1, q2, q3]) rfl (ret2_mk (by rw [HS.out]; simp [fcalc]) ?_)
  exact below_put4 hbel (by omega) _ _ _ _
set_option maxRecDepth 100000 in
set_option maxHeartbeats 8000000 in
theorem rcalc25 (a b c : Nat) (ha : Hid (a < M)) (hb0 : Hid (b < M)) (hc0 : Hid (c < M)) (w : World) : Calls Try.prog 6 #[.int .u8 25, wv a, wv b, wv c] w (Ret2 w (fcalc 25 a b c) 0) := by
  have hs := RC.start w a b c
  go_enter Try.func6, Try.ntmps6
  go_wp2_with fail
  refine (rsmall_any 0 (by omega) _).mono ?_
  rintro e w1 ⟨z, HZ, rfl, hb⟩
  replace hs := hs.call hb
  clear hb
  obtain ⟨a0, a1, a2, a3⟩ := row_cells4 hs.ra
  have al := (hs.ra).lt
  obtain ⟨b0, b1, b2, b3⟩ := row_cells4 hs.rb
  have bl := (hs.rb).lt
  go_wp2_with fail
  refine (rnot_any a b ha hb0 _).mono ?_
  rintro e w2 ⟨s, HS, rfl, hb⟩
  replace hs := (hs.alloc _).call hb
  clear a0 a1 a2 a3 al b0 b1 b2 b3 bl
  clear hb
  have hrz := hs.rz
  have hbel := hs.be
  obtain ⟨x0, x1, x2, x3⟩ := row_cells4 hrz
  have fz := hrz.frozen
  go_wp2
  obtain ⟨q0, q1, q2, q3⟩ := row_cells4 (row_put4 hrz (limb s) rfl rfl rfl rfl)
  refine bodyPost_ret (v := .tuple #[wv s, .int .i64 0]) (by simp [results, Try.results6, go_sem, q0, q1, q2, q3]) rfl (ret2_mk (by rw [HS.out]; simp [fcalc]) ?_)
  exact below_put4 hbel (by omega) _ _ _ _
set_option maxRecDepth 100000 in
set_option maxHeartbeats 8000000 in
theorem rcalc26 (a b c : Nat) (ha : Hid (a < M)) (hb0 : Hid (b < M)) (hc0 : Hid (c < M)) (w : World) : Calls Try.prog 6 #[.int .u8 26, wv a, wv b, wv c] w (Ret2 w (fcalc 26 a b c) 0) := by
  have hs := RC.start w a b c
  go_enter Try.func6, Try.ntmps6
  go_wp2_with fail
  refine (rsmall_any 0 (by omega) _).mono ?_
  rintro e w1 ⟨z, HZ, rfl, hb⟩
  replace hs := hs.call hb
  clear hb
  obtain ⟨a0, a1, a2, a3⟩ := row_cells4 hs.ra
  have al := (hs.ra).lt
  obtain ⟨b0, b1, b2, b3⟩ := row_cells4 hs.rb
  have bl := (hs.rb).lt
  go_wp2_with fail
  refine (rbyte_any a b ha hb0 _).mono ?_
  rintro e w2 ⟨s, HS, rfl, hb⟩
  replace hs := (hs.alloc _).call hb
  clear a0 a1 a2 a3 al b0 b1 b2 b3 bl
  clear hb
  have hrz := hs.rz
  have hbel := hs.be
  obtain ⟨x0, x1, x2, x3⟩ := row_cells4 hrz
  have fz := hrz.frozen
  go_wp2
  obtain ⟨q0, q1, q2, q3⟩ := row_cells4 (row_put4 hrz (limb s) rfl rfl rfl rfl)
  refine bodyPost_ret (v := .tuple #[wv s, .int .i64 0]) (by simp [results, Try.results6, go_sem, q0, q1, q2, q3]) rfl (ret2_mk (by rw [HS.out]; simp [fcalc]) ?_)
  exact below_put4 hbel (by omega) _ _ _ _
set_option maxRecDepth 100000 in
set_option maxHeartbeats 8000000 in
theorem rcalc27 (a b c : Nat) (ha : Hid (a < M)) (hb0 : Hid (b < M)) (hc0 : Hid (c < M)) (w : World) : Calls Try.prog 6 #[.int .u8 27, wv a, wv b, wv c] w (Ret2 w (fcalc 27 a b c) 0) := by
  have hs := RC.start w a b c
  go_enter Try.func6, Try.ntmps6
  go_wp2_with fail
  refine (rsmall_any 0 (by omega) _).mono ?_
  rintro e w1 ⟨z, HZ, rfl, hb⟩
  replace hs := hs.call hb
  clear hb
  obtain ⟨a0, a1, a2, a3⟩ := row_cells4 hs.ra
  have al := (hs.ra).lt
  obtain ⟨b0, b1, b2, b3⟩ := row_cells4 hs.rb
  have bl := (hs.rb).lt
  go_wp2_with fail
  refine (rshl_any a b ha hb0 _).mono ?_
  rintro e w2 ⟨s, HS, rfl, hb⟩
  replace hs := (hs.alloc _).call hb
  clear a0 a1 a2 a3 al b0 b1 b2 b3 bl
  clear hb
  have hrz := hs.rz
  have hbel := hs.be
  obtain ⟨x0, x1, x2, x3⟩ := row_cells4 hrz
  have fz := hrz.frozen
  go_wp2
  obtain ⟨q0, q1, q2, q3⟩ := row_cells4 (row_put4 hrz (limb s) rfl rfl rfl rfl)
  refine bodyPost_ret (v := .tuple #[wv s, .int .i64 0]) (by simp [results, Try.results6, go_sem, q0, q1, q2, q3]) rfl (ret2_mk (by rw [HS.out]; simp [fcalc]) ?_)
  exact below_put4 hbel (by omega) _ _ _ _
set_option maxRecDepth 100000 in
set_option maxHeartbeats 8000000 in
theorem rcalc28 (a b c : Nat) (ha : Hid (a < M)) (hb0 : Hid (b < M)) (hc0 : Hid (c < M)) (w : World) : Calls Try.prog 6 #[.int .u8 28, wv a, wv b, wv c] w (Ret2 w (fcalc 28 a b c) 0) := by
  have hs := RC.start w a b c
  go_enter Try.func6, Try.ntmps6
  go_wp2_with fail
  refine (rsmall_any 0 (by omega) _).mono ?_
  rintro e w1 ⟨z, HZ, rfl, hb⟩
  replace hs := hs.call hb
  clear hb
  obtain ⟨a0, a1, a2, a3⟩ := row_cells4 hs.ra
  have al := (hs.ra).lt
  obtain ⟨b0, b1, b2, b3⟩ := row_cells4 hs.rb
  have bl := (hs.rb).lt
  go_wp2_with fail
  refine (rshr_any a b ha hb0 _).mono ?_
  rintro e w2 ⟨s, HS, rfl, hb⟩
  replace hs := (hs.alloc _).call hb
  clear a0 a1 a2 a3 al b0 b1 b2 b3 bl
  clear hb
  have hrz := hs.rz
  have hbel := hs.be
  obtain ⟨x0, x1, x2, x3⟩ := row_cells4 hrz
  have fz := hrz.frozen
  go_wp2
  obtain ⟨q0, q1, q2, q3⟩ := row_cells4 (row_put4 hrz (limb s) rfl rfl rfl rfl)
  refine bodyPost_ret (v := .tuple #[wv s, .int .i64 0]) (by simp [results, Try.results6, go_sem, q0, q1, q2, q3]) rfl (ret2_mk (by rw [HS.out]; simp [fcalc]) ?_)
  exact below_put4 hbel (by omega) _ _ _ _
set_option maxRecDepth 100000 in
set_option maxHeartbeats 8000000 in
theorem rcalc29 (a b c : Nat) (ha : Hid (a < M)) (hb0 : Hid (b < M)) (hc0 : Hid (c < M)) (w : World) : Calls Try.prog 6 #[.int .u8 29, wv a, wv b, wv c] w (Ret2 w (fcalc 29 a b c) 0) := by
  have hs := RC.start w a b c
  go_enter Try.func6, Try.ntmps6
  go_wp2_with fail
  refine (rsmall_any 0 (by omega) _).mono ?_
  rintro e w1 ⟨z, HZ, rfl, hb⟩
  replace hs := hs.call hb
  clear hb
  obtain ⟨a0, a1, a2, a3⟩ := row_cells4 hs.ra
  have al := (hs.ra).lt
  obtain ⟨b0, b1, b2, b3⟩ := row_cells4 hs.rb
  have bl := (hs.rb).lt
  go_wp2_with fail
  refine (rsar_any a b ha hb0 _).mono ?_
  rintro e w2 ⟨s, HS, rfl, hb⟩
  replace hs := (hs.alloc _).call hb
  clear a0 a1 a2 a3 al b0 b1 b2 b3 bl
  clear hb
  have hrz := hs.rz
  have hbel := hs.be
  obtain ⟨x0, x1, x2, x3⟩ := row_cells4 hrz
  have fz := hrz.frozen
  go_wp2
  obtain ⟨q0, q1, q2, q3⟩ := row_cells4 (row_put4 hrz (limb s) rfl rfl rfl rfl)
  refine bodyPost_ret (v := .tuple #[wv s, .int .i64 0]) (by simp [results, Try.results6, go_sem, q0, q1, q2, q3]) rfl (ret2_mk (by rw [HS.out]; simp [fcalc]) ?_)
  exact below_put4 hbel (by omega) _ _ _ _
end cin
end Go.Proofs.Ytohoajjdoihekaa
