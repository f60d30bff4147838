/-
  The walk of the document's answer: Calc, the other operations.
-/
import Derived.Test.YtohoajjdoihekaaSt5
set_option linter.unusedVariables false
set_option linter.unusedSimpArgs false
namespace Go.Proofs.Ytohoajjdoihekaa
open Go.RowKit
namespace cin
theorem fcalc_none (op a b c : Nat) (h : (12 ≤ op ∧ op ≤ 15) ∨ 30 ≤ op) : fcalc op a b c = 0 := by
  unfold fcalc
  rw [if_neg (by omega), if_neg (by omega), if_neg (by omega), if_neg (by omega), if_neg (by omega), if_neg (by omega), if_neg (by omega), if_neg (by omega), if_neg (by omega), if_neg (by omega), if_neg (by omega), if_neg (by omega), if_neg (by omega), if_neg (by omega), if_neg (by omega), if_neg (by omega), if_neg (by omega), if_neg (by omega), if_neg (by omega), if_neg (by omega), if_neg (by omega), if_neg (by omega), if_neg (by omega), if_neg (by omega), if_neg (by omega)]
set_option maxRecDepth 100000 in
set_option maxHeartbeats 8000000 in
theorem rcalc2 (a b c : Nat) (ha : Hid (a < M)) (hb0 : Hid (b < M)) (hc0 : Hid (c < M)) (w : World) : Calls Try.prog 6 #[.int .u8 2, wv a, wv b, wv c] w (Ret2 w (fcalc 2 a b c) 0) := by
  have hs := RC.start w a b c
  go_enter Try.func6, Try.ntmps6
  go_wp2_with fail
  refine (rsmall_any 0 (by omega) _).mono ?_
  rintro e w1 ⟨z, HZ, rfl, hb⟩
  replace hs := hs.call hb
  clear hb
  obtain ⟨a0, a1, a2, a3⟩ := row_cells4 hs.ra
  have al := (hs.ra).lt
  obtain ⟨b0, b1, b2, b3⟩ := row_cells4 hs.rb
  have bl := (hs.rb).lt
  go_wp2_with fail
  refine (rproduct_any a b _).mono ?_
  rintro e w2 ⟨p, s, HS, rfl, _, hrow, hb⟩
  replace hs := (hs.alloc _).call hb
  clear a0 a1 a2 a3 al b0 b1 b2 b3 bl
  clear hb
  go_wp2_with fail
  refine (wordOf_any s 512 p 512 (by omega) (hi512m s a b HS) _ hrow).mono ?_
  rintro e w3 ⟨rfl, hb⟩
  replace hs := hs.call hb
  clear hb hrow
  have hrz := hs.rz
  have hbel := hs.be
  obtain ⟨x0, x1, x2, x3⟩ := row_cells4 hrz
  have fz := hrz.frozen
  go_wp2
  obtain ⟨q0, q1, q2, q3⟩ := row_cells4 (row_put4 hrz (limb s) rfl rfl rfl rfl)
  refine bodyPost_ret (v := .tuple #[wv s, .int .i64 0]) (by simp [results, Try.results6, go_sem, q0, q1, q2, q3]) rfl (ret2_mk (by rw [HS.out, Nat.mod_eq_of_lt ha.out, Nat.mod_eq_of_lt hb0.out]; simp [fcalc, fmul]) ?_)
  exact below_put4 hbel (by omega) _ _ _ _
set_option maxRecDepth 100000 in
set_option maxHeartbeats 8000000 in
theorem rcalc16 (a b c : Nat) (ha : Hid (a < M)) (hb0 : Hid (b < M)) (hc0 : Hid (c < M)) (w : World) : Calls Try.prog 6 #[.int .u8 16, wv a, wv b, wv c] w (Ret2 w (fcalc 16 a b c) 0) := by
  have hs := RC.start w a b c
  go_enter Try.func6, Try.ntmps6
  go_wp2_with fail
  refine (rsmall_any 0 (by omega) _).mono ?_
  rintro e w1 ⟨z, HZ, rfl, hb⟩
  replace hs := hs.call hb
  clear hb
  obtain ⟨a0, a1, a2, a3⟩ := row_cells4 hs.ra
  have al := (hs.ra).lt
  obtain ⟨b0, b1, b2, b3⟩ := row_cells4 hs.rb
  have bl := (hs.rb).lt
  obtain ⟨t, Ht⟩ : ∃ t, Hid (t = ltw a b) := ⟨_, rfl⟩
  go_wp2_with fail
  refine (rless_any a b _).mono ?_
  rintro e w2 ⟨rfl, hb⟩
  rw [← Ht.out]
  replace hs := (hs.alloc _).call hb
  clear a0 a1 a2 a3 al b0 b1 b2 b3 bl
  clear hb
  go_wp2_with fail
  refine (rtruth_any t _).mono ?_
  rintro e w3 ⟨s, HS, rfl, hb⟩
  replace hs := hs.call hb
  clear hb
  have hrz := hs.rz
  have hbel := hs.be
  obtain ⟨x0, x1, x2, x3⟩ := row_cells4 hrz
  have fz := hrz.frozen
  go_wp2
  obtain ⟨q0, q1, q2, q3⟩ := row_cells4 (row_put4 hrz (limb s) rfl rfl rfl rfl)
  refine bodyPost_ret (v := .tuple #[wv s, .int .i64 0]) (by simp [results, Try.results6, go_sem, q0, q1, q2, q3]) rfl (ret2_mk (by rw [HS.out, Ht.out]; unfold ltw; rw [Nat.mod_eq_of_lt ha.out, Nat.mod_eq_of_lt hb0.out]; simp [fcalc]) ?_)
  exact below_put4 hbel (by omega) _ _ _ _
set_option maxRecDepth 100000 in
set_option maxHeartbeats 8000000 in
theorem rcalc17 (a b c : Nat) (ha : Hid (a < M)) (hb0 : Hid (b < M)) (hc0 : Hid (c < M)) (w : World) : Calls Try.prog 6 #[.int .u8 17, wv a, wv b, wv c] w (Ret2 w (fcalc 17 a b c) 0) := by
  have hs := RC.start w a b c
  go_enter Try.func6, Try.ntmps6
  go_wp2_with fail
  refine (rsmall_any 0 (by omega) _).mono ?_
  rintro e w1 ⟨z, HZ, rfl, hb⟩
  replace hs := hs.call hb
  clear hb
  obtain ⟨a0, a1, a2, a3⟩ := row_cells4 hs.ra
  have al := (hs.ra).lt
  obtain ⟨b0, b1, b2, b3⟩ := row_cells4 hs.rb
  have bl := (hs.rb).lt
  obtain ⟨t, Ht⟩ : ∃ t, Hid (t = ltw b a) := ⟨_, rfl⟩
  go_wp2_with fail
  refine (rless_any b a _).mono ?_
  rintro e w2 ⟨rfl, hb⟩
  rw [← Ht.out]
  replace hs := (hs.alloc _).call hb
  clear a0 a1 a2 a3 al b0 b1 b2 b3 bl
  clear hb
  go_wp2_with fail
  refine (rtruth_any t _).mono ?_
  rintro e w3 ⟨s, HS, rfl, hb⟩
  replace hs := hs.call hb
  clear hb
  have hrz := hs.rz
  have hbel := hs.be
  obtain ⟨x0, x1, x2, x3⟩ := row_cells4 hrz
  have fz := hrz.frozen
  go_wp2
  obtain ⟨q0, q1, q2, q3⟩ := row_cells4 (row_put4 hrz (limb s) rfl rfl rfl rfl)
  refine bodyPost_ret (v := .tuple #[wv s, .int .i64 0]) (by simp [results, Try.results6, go_sem, q0, q1, q2, q3]) rfl (ret2_mk (by rw [HS.out, Ht.out]; unfold ltw; rw [Nat.mod_eq_of_lt ha.out, Nat.mod_eq_of_lt hb0.out]; simp [fcalc]) ?_)
  exact below_put4 hbel (by omega) _ _ _ _
set_option maxRecDepth 100000 in
set_option maxHeartbeats 8000000 in
theorem rcalc20 (a b c : Nat) (ha : Hid (a < M)) (hb0 : Hid (b < M)) (hc0 : Hid (c < M)) (w : World) : Calls Try.prog 6 #[.int .u8 20, wv a, wv b, wv c] w (Ret2 w (fcalc 20 a b c) 0) := by
  have hs := RC.start w a b c
  go_enter Try.func6, Try.ntmps6
  go_wp2_with fail
  refine (rsmall_any 0 (by omega) _).mono ?_
  rintro e w1 ⟨z, HZ, rfl, hb⟩
  replace hs := hs.call hb
  clear hb
  obtain ⟨a0, a1, a2, a3⟩ := row_cells4 hs.ra
  have al := (hs.ra).lt
  obtain ⟨b0, b1, b2, b3⟩ := row_cells4 hs.rb
  have bl := (hs.rb).lt
  obtain ⟨t, Ht⟩ : ∃ t, Hid (t = eqw a b) := ⟨_, rfl⟩
  have he : ∀ w, (Op.equalIn 10000 24 (wv a) (wv b)).run Try.prog w = .ok t w := fun w => by rw [eq_words, Ht.out]
  go_wp2_with fail
  refine (rtruth_any t _).mono ?_
  rintro e w3 ⟨s, HS, rfl, hb⟩
  replace hs := (hs.alloc _).call hb
  clear hb he
  clear a0 a1 a2 a3 al b0 b1 b2 b3 bl
  have hrz := hs.rz
  have hbel := hs.be
  obtain ⟨x0, x1, x2, x3⟩ := row_cells4 hrz
  have fz := hrz.frozen
  go_wp2
  obtain ⟨q0, q1, q2, q3⟩ := row_cells4 (row_put4 hrz (limb s) rfl rfl rfl rfl)
  refine bodyPost_ret (v := .tuple #[wv s, .int .i64 0]) (by simp [results, Try.results6, go_sem, q0, q1, q2, q3]) rfl (ret2_mk (by rw [HS.out, Ht.out]; unfold eqw; rw [Nat.mod_eq_of_lt ha.out, Nat.mod_eq_of_lt hb0.out]; simp [fcalc]) ?_)
  exact below_put4 hbel (by omega) _ _ _ _
set_option maxRecDepth 100000 in
set_option maxHeartbeats 8000000 in
theorem rcalc21 (a b c : Nat) (ha : Hid (a < M)) (hb0 : Hid (b < M)) (hc0 : Hid (c < M)) (w : World) : Calls Try.prog 6 #[.int .u8 21, wv a, wv b, wv c] w (Ret2 w (fcalc 21 a b c) 0) := by
  have hs := RC.start w a b c
  go_enter Try.func6, Try.ntmps6
  go_wp2_with fail
  refine (rsmall_any 0 (by omega) _).mono ?_
  rintro e w1 ⟨z, HZ, rfl, hb⟩
  replace hs := hs.call hb
  clear hb
  obtain ⟨a0, a1, a2, a3⟩ := row_cells4 hs.ra
  have al := (hs.ra).lt
  obtain ⟨t, Ht⟩ : ∃ t, Hid (t = decide (a % M = 0)) := ⟨_, rfl⟩
  go_wp2_with fail
  refine (risz_any a _).mono ?_
  rintro e w2 ⟨rfl, hb⟩
  rw [← Ht.out]
  replace hs := (hs.alloc _).call hb
  clear a0 a1 a2 a3 al
  clear hb
  go_wp2_with fail
  refine (rtruth_any t _).mono ?_
  rintro e w3 ⟨s, HS, rfl, hb⟩
  replace hs := hs.call hb
  clear hb
  have hrz := hs.rz
  have hbel := hs.be
  obtain ⟨x0, x1, x2, x3⟩ := row_cells4 hrz
  have fz := hrz.frozen
  go_wp2
  obtain ⟨q0, q1, q2, q3⟩ := row_cells4 (row_put4 hrz (limb s) rfl rfl rfl rfl)
  refine bodyPost_ret (v := .tuple #[wv s, .int .i64 0]) (by simp [results, Try.results6, go_sem, q0, q1, q2, q3]) rfl (ret2_mk (by rw [HS.out, Ht.out, Nat.mod_eq_of_lt ha.out]; simp [fcalc]) ?_)
  exact below_put4 hbel (by omega) _ _ _ _
set_option maxRecDepth 100000 in
set_option maxHeartbeats 8000000 in
theorem rcalc11 (a b c : Nat) (ha : Hid (a < M)) (hb0 : Hid (b < M)) (hc0 : Hid (c < M)) (w : World) : Calls Try.prog 6 #[.int .u8 11, wv a, wv b, wv c] w (Ret2 w (fcalc 11 a b c) 0) := by
  have hs := RC.start w a b c
  go_enter Try.func6, Try.ntmps6
  go_wp2_with fail
  refine (rsmall_any 0 (by omega) _).mono ?_
  rintro e w1 ⟨z, HZ, rfl, hb⟩
  replace hs := hs.call hb
  clear hb
  obtain ⟨a0, a1, a2, a3⟩ := row_cells4 hs.ra
  have al := (hs.ra).lt
  have HF : Hid (fint a 31 = if a < 31 then a else 31) := by show _ = _; unfold fint; rw [Nat.mod_eq_of_lt ha.out]
  go_wp2_with fail
  refine (rint_any a 31 (by omega) _).mono ?_
  rintro e w2 ⟨rfl, hb⟩
  replace hs := (hs.alloc _).call hb
  clear a0 a1 a2 a3 al
  clear hb
  by_cases h31 : a < 31
  · as_aux_lemma =>
    rw [if_pos h31] at HF
    rw [HF.out]
    obtain ⟨R, HR⟩ : ∃ R, Hid (R = fsext a b) := ⟨_, rfl⟩
    have HM : Hid (R < M) := by show _ < _; rw [HR.out]; exact fsext_lt a b hb0.out
    have HX : Hid (∀ i, i < 256 → R.testBit i = if i < 8 * a + 8 then b.testBit i else b.testBit (8 * a + 7)) := fun i hi => by rw [HR.out]; exact sext_bits a b i h31 hb0.out hi
    obtain ⟨b0, b1, b2, b3⟩ := row_cells4 hs.rb
    go_wp2_with fail
    refine (bitsOf_any b _).mono ?_
    rintro e w3 ⟨p, rfl, hpl, hrow, hb⟩
    have hzl := hs.rz.lt
    replace hs := hs.call hb
    clear hb b0 b1 b2 b3
    have hpz : w.heap.size + 1 + 1 + 1 < p := by omega
    go_wp2
    go_loopw [13] (fun t13 wr => ∃ i : Nat, 8 * a + 8 ≤ i ∧ i ≤ 256 ∧ t13 = .int .i64 i ∧ wr.rowIs (w.heap.size + 1 + 1 + 1) 24 4 (u64s fun _ => 0) ∧ wr.rowIs p 4 256 (bools fun j => if j < i then R.testBit j else b.testBit j) ∧ Below w.heap.size w wr)
       (fun t13 _ => 256 - (intOf t13).toNat)
    case atStart =>
      refine ⟨8 * a + 8, Nat.le_refl _, by omega, by go_num, hs.rz, hrow.congr fun j hj => ?_, hs.be⟩
      simp only [bools]
      by_cases h : j < 8 * a + 8
      · rw [if_pos h, HX.out j hj, if_pos h]
      · rw [if_neg h]
    case round =>
      clear hs hrow
      obtain ⟨i, hi0, hi, rfl, hrz, hro, hbel⟩ := hrel
      by_cases hlt : i < 256
      · have hdi : decide ((i : Int) < 256) = true := by simp; omega
        have HB : Hid (R.testBit (8 * a + 7) = R.testBit i) := by show _ = _; rw [HX.out i hlt, if_neg (by omega), HX.out (8 * a + 7) (by omega), if_pos (by omega)]
        have fo := hro.frozen i
        have co := hro.cell (i := i) hlt
        have cs := hro.cell (i := 8 * a + 7) (by omega)
        simp only [bools] at cs
        rw [if_pos (by omega)] at cs
        go_wp2
        go_roundw
        case rel => exact ⟨i + 1, by omega, by omega, by go_num, hrz.setOther (by simp; omega) _, rowb_up hro HB.out, bset hbel (by simp; omega) _⟩
        case measure => simp [intOf]; omega
      · obtain rfl : i = 256 := by omega
        have hr2 : wr.rowIs p 4 256 (bools R.testBit) := hro.congr fun j hj => by simp only [bools]; rw [if_pos hj]
        clear hro
        go_wp2_with fail
        refine (wordOf_any R 256 p 256 (by omega) (hi256 HM.out) _ hr2).mono ?_
        rintro e w4 ⟨rfl, hb⟩
        replace hrz := row_below hrz hb
        replace hbel := bcall hbel hb
        clear hb hr2
        obtain ⟨x0, x1, x2, x3⟩ := row_cells4 hrz
        have fz := hrz.frozen
        go_wp2
        obtain ⟨q0, q1, q2, q3⟩ := row_cells4 (row_put4 hrz (limb R) rfl rfl rfl rfl)
        refine bodyPost_ret (v := .tuple #[wv R, .int .i64 0]) (by simp [results, Try.results6, go_sem, q0, q1, q2, q3]) rfl (ret2_mk (by rw [HR.out]; simp [fcalc]) ?_)
        exact below_put4 hbel (by omega) _ _ _ _
  · as_aux_lemma =>
    rw [if_neg h31] at HF
    rw [HF.out]
    have HE : Hid (fsext a b = b) := by show _ = _; unfold fsext; rw [if_neg h31]
    obtain ⟨b0, b1, b2, b3⟩ := row_cells4 hs.rb
    have hrz := hs.rz
    have hbel := hs.be
    obtain ⟨x0, x1, x2, x3⟩ := row_cells4 hrz
    have fz := hrz.frozen
    go_wp2
    obtain ⟨q0, q1, q2, q3⟩ := row_cells4 (row_put4 hrz (limb b) rfl rfl rfl rfl)
    refine bodyPost_ret (v := .tuple #[wv b, .int .i64 0]) (by simp [results, Try.results6, go_sem, q0, q1, q2, q3]) rfl (ret2_mk (by rw [show fcalc 11 a b c = fsext a b by simp [fcalc], HE.out]) ?_)
    exact below_put4 hbel (by omega) _ _ _ _
set_option maxRecDepth 100000 in
set_option maxHeartbeats 8000000 in
theorem rcalcN0 (a b c : Nat) (op : Nat) (ho : op = 0) (ha : Hid (a < M)) (hb0 : Hid (b < M)) (hc0 : Hid (c < M)) (w : World) : Calls Try.prog 6 #[.int .u8 (op : Int), wv a, wv b, wv c] w (Ret2 w (fcalc op a b c) 1) := by
  subst ho
  have hs := RC.start w a b c
  go_enter Try.func6, Try.ntmps6
  go_wp2_with fail
  refine (rsmall_any 0 (by omega) _).mono ?_
  rintro e w1 ⟨z, HZ, rfl, hb⟩
  replace hs := hs.call hb
  clear hb
  go_wp2_with fail
  refine (rsmall_any 0 (by omega) _).mono ?_
  rintro e w2 ⟨s, HS, rfl, hb⟩
  replace hs := (hs.alloc _).call hb
  clear hb
  have hrz := hs.rz
  have hbel := hs.be
  obtain ⟨x0, x1, x2, x3⟩ := row_cells4 hrz
  have fz := hrz.frozen
  go_wp2
  obtain ⟨q0, q1, q2, q3⟩ := row_cells4 (row_put4 hrz (limb s) rfl rfl rfl rfl)
  refine bodyPost_ret (v := .tuple #[wv s, .int .i64 1]) (by simp [results, Try.results6, go_sem, q0, q1, q2, q3]) rfl (ret2_mk (by rw [HS.out]; simp [fcalc]) ?_)
  exact below_put4 hbel (by omega) _ _ _ _
set_option maxRecDepth 100000 in
set_option maxHeartbeats 8000000 in
theorem rcalcN1 (a b c : Nat) (op : Nat) (ho : 12 ≤ op) (ho2 : op ≤ 15) (ha : Hid (a < M)) (hb0 : Hid (b < M)) (hc0 : Hid (c < M)) (w : World) : Calls Try.prog 6 #[.int .u8 (op : Int), wv a, wv b, wv c] w (Ret2 w (fcalc op a b c) 1) := by
  have hs := RC.start w a b c
  go_enter Try.func6, Try.ntmps6
  go_wp2_with fail
  refine (rsmall_any 0 (by omega) _).mono ?_
  rintro e w1 ⟨z, HZ, rfl, hb⟩
  replace hs := hs.call hb
  clear hb
  go_wp2_with fail
  refine (rsmall_any 0 (by omega) _).mono ?_
  rintro e w2 ⟨s, HS, rfl, hb⟩
  replace hs := (hs.alloc _).call hb
  clear hb
  have hrz := hs.rz
  have hbel := hs.be
  obtain ⟨x0, x1, x2, x3⟩ := row_cells4 hrz
  have fz := hrz.frozen
  go_wp2
  obtain ⟨q0, q1, q2, q3⟩ := row_cells4 (row_put4 hrz (limb s) rfl rfl rfl rfl)
  refine bodyPost_ret (v := .tuple #[wv s, .int .i64 1]) (by simp [results, Try.results6, go_sem, q0, q1, q2, q3]) rfl (ret2_mk (by rw [HS.out, fcalc_none op a b c (by omega)]) ?_)
  exact below_put4 hbel (by omega) _ _ _ _
set_option maxRecDepth 100000 in
set_option maxHeartbeats 8000000 in
theorem rcalcN2 (a b c : Nat) (op : Nat) (ho : 30 ≤ op) (ho2 : op ≤ 255) (ha : Hid (a < M)) (hb0 : Hid (b < M)) (hc0 : Hid (c < M)) (w : World) : Calls Try.prog 6 #[.int .u8 (op : Int), wv a, wv b, wv c] w (Ret2 w (fcalc op a b c) 1) := by
  have hs := RC.start w a b c
  go_enter Try.func6, Try.ntmps6
  go_wp2_with fail
  refine (rsmall_any 0 (by omega) _).mono ?_
  rintro e w1 ⟨z, HZ, rfl, hb⟩
  replace hs := hs.call hb
  clear hb
  go_wp2_with fail
  refine (rsmall_any 0 (by omega) _).mono ?_
  rintro e w2 ⟨s, HS, rfl, hb⟩
  replace hs := (hs.alloc _).call hb
  clear hb
  have hrz := hs.rz
  have hbel := hs.be
  obtain ⟨x0, x1, x2, x3⟩ := row_cells4 hrz
  have fz := hrz.frozen
  go_wp2
  obtain ⟨q0, q1, q2, q3⟩ := row_cells4 (row_put4 hrz (limb s) rfl rfl rfl rfl)
  refine bodyPost_ret (v := .tuple #[wv s, .int .i64 1]) (by simp [results, Try.results6, go_sem, q0, q1, q2, q3]) rfl (ret2_mk (by rw [HS.out, fcalc_none op a b c (by omega)]) ?_)
  exact below_put4 hbel (by omega) _ _ _ _
end cin
end Go.Proofs.Ytohoajjdoihekaa
