/-
  The walks of the statements' own small functions (package cinderkeep) over Calc.
-/
import Derived.Test.YtohoajjdoihekaaWn
set_option linter.unusedVariables false
set_option linter.unusedSimpArgs false
namespace Go.Proofs.Ytohoajjdoihekaa
open Go.RowKit
namespace cin
set_option maxRecDepth 100000 in
set_option maxHeartbeats 1000000 in
theorem ksmall_any (n : Nat) (hn : n < 9223372036854775808) (w : World) : Calls Try.prog 8 #[.int .i64 (n : Int)] w (Ret w n) := by
  obtain ⟨g0, g1, g2, g3⟩ := small_limbs n (by omega)
  have G0 : Hid (limb n 0 = (n : Int)) := g0
  have G1 : Hid (limb n 1 = 0) := g1
  have G2 : Hid (limb n 2 = 0) := g2
  have G3 : Hid (limb n 3 = 0) := g3
  clear g0 g1 g2 g3
  go_enter Try.func8, Try.ntmps8
  go_wp2
  refine bodyPost_ret (v := wv n) (by unfold wv; rw [G0.out, G1.out, G2.out, G3.out]; simp [results, Try.results8, go_sem]) rfl (ret_mk rfl ?_)
  exact bal (bal (Below.refl _ _) _) _
set_option maxRecDepth 100000 in
set_option maxHeartbeats 1000000 in
theorem kcalc_any (op : Nat) (ho : op ≤ 255) (he : Hid (ferr op = 0)) (a b c : Nat) (w : World) : Calls Try.prog 9 #[.int .u8 (op : Int), wv a, wv b, wv c] w (Ret w (fcalc op (a % M) (b % M) (c % M))) := by
  have hs := S4.start w a b c
  have hc : ∀ w, Calls Try.prog 5 #[.int .u8 (op : Int), wv a, wv b, wv c] w (Ret2 w (fcalc op (a % M) (b % M) (c % M)) 0) := fun w => by have h := calc_any op ho a b c w; rw [he.out] at h; exact h
  have HC := hc
  have HH : Hid (∀ w, Calls Try.prog 5 #[.int .u8 (op : Int), wv a, wv b, wv c] w (Ret2 w (fcalc op (a % M) (b % M) (c % M)) 0)) := hc
  clear hc HC
  go_enter Try.func9, Try.ntmps9
  go_wp2_with fail
  refine (HH.out _).mono ?_
  rintro e w1 ⟨s, HS, rfl, hb⟩
  replace hs := hs.call hb
  clear hb
  have hrz := hs.rz
  have hbel := hs.be
  have z := hrz.lt
  obtain ⟨x0, x1, x2, x3⟩ := row_cells4 hrz
  have fz := hrz.frozen
  go_wp2
  obtain ⟨q0, q1, q2, q3⟩ := row_cells4 (row_put4 hrz (limb s) rfl rfl rfl rfl)
  refine bodyPost_ret (v := wv s) (by simp [results, Try.results9, go_sem, q0, q1, q2, q3, z]) rfl (ret_mk (by rw [HS.out]) ?_)
  exact bal (below_put4 hbel (by omega) _ _ _ _) _
set_option maxRecDepth 100000 in
set_option maxHeartbeats 1000000 in
theorem ksum_any (a b : Nat) (w : World) : Calls Try.prog 10 #[wv a, wv b] w (Ret w (fadd (a % M) (b % M))) := by
  have hs := SS.start w a b
  go_enter Try.func10, Try.ntmps10
  go_wp2_with fail
  refine (kcalc_any 1 (by omega) (by show _ = _; decide) a b a _).mono ?_
  rintro e w1 ⟨s, HS, rfl, hb⟩
  replace hs := hs.call hb
  clear hb
  have hrz := hs.rz
  have hbel := hs.be
  obtain ⟨x0, x1, x2, x3⟩ := row_cells4 hrz
  have fz := hrz.frozen
  go_wp2
  obtain ⟨q0, q1, q2, q3⟩ := row_cells4 (row_put4 hrz (limb s) rfl rfl rfl rfl)
  refine bodyPost_ret (v := wv s) (by simp [results, Try.results10, go_sem, q0, q1, q2, q3]) rfl (ret_mk (by rw [HS.out]; simp [fcalc]) ?_)
  exact below_put4 hbel (by omega) _ _ _ _
theorem truth_eq (t : Bool) : eqw (ftruth t) 1 = t := by cases t <;> decide
set_option maxRecDepth 100000 in
set_option maxHeartbeats 1000000 in
theorem kless_any (a b : Nat) (w : World) : Calls Try.prog 11 #[wv a, wv b] w fun e w' => ∃ r : Bool, Hid (r = decide (a % M < b % M)) ∧ e = .returned (.bool r) ∧ Below w.heap.size w w' := by
  have hs := S2.start w a b
  go_enter Try.func11, Try.ntmps11
  go_wp2_with fail
  refine (kcalc_any 16 (by omega) (by show _ = _; decide) a b a _).mono ?_
  rintro e w1 ⟨s, HS, rfl, hb⟩
  replace hs := hs.call hb
  clear hb
  go_wp2_with fail
  refine (ksmall_any 1 (by omega) _).mono ?_
  rintro e w2 ⟨o, HO, rfl, hb⟩
  replace hs := hs.call hb
  clear hb
  obtain ⟨t, HT⟩ : ∃ t, Hid (t = decide (a % M < b % M)) := ⟨_, rfl⟩
  have he : ∀ w, (Op.equalIn 10000 24 (wv s) (wv o)).run Try.prog w = .ok t w := fun w => by rw [eq_words, HS.out, HO.out, show fcalc 16 (a % M) (b % M) (a % M) = ftruth (decide (a % M < b % M)) by simp [fcalc], truth_eq, HT.out]
  go_wp2
  go_ret
  exact ⟨t, HT, rfl, hs.be⟩
end cin
end Go.Proofs.Ytohoajjdoihekaa
