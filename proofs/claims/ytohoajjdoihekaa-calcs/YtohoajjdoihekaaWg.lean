/-
  The walks of package word's operations, each out of its callees' contracts.
-/
import Derived.Test.YtohoajjdoihekaaWb
import Derived.Test.YtohoajjdoihekaaWc
import Derived.Test.YtohoajjdoihekaaWe
import Derived.Test.YtohoajjdoihekaaWf
import Derived.Test.YtohoajjdoihekaaNum5
set_option linter.unusedVariables false
set_option linter.unusedSimpArgs false
namespace Go.Proofs.Ytohoajjdoihekaa
open Go.RowKit
namespace cin
/-- a call that gives the word n, and leaves what was there as it was -/
def Ret (w : World) (n : Nat) (e : Ending) (w' : World) : Prop := ∃ r : Nat, Hid (r = n) ∧ e = .returned (wv r) ∧ Below w.heap.size w w'
theorem ret_mk {w w' : World} {n r : Nat} (h : r % M = n % M) (hb : Below w.heap.size w w') : Ret w n (.returned (wv r)) w' :=
  ⟨n, rfl, congrArg Ending.returned (wv_congr h), hb⟩
theorem below_row_lt {w w' : World} {b : Nat} {t : TypeId} {n : Nat} {f : Nat → Value} (h : w'.rowIs b t n f) (_hb : Below w.heap.size w w') : b < w'.heap.size := h.lt
theorem bcell {W w1 : World} (hb : Below W.heap.size W w1) : (∀ b o, b < W.heap.size → w1.cell? ⟨b, o, none⟩ = W.cell? ⟨b, o, none⟩) ∧ (∀ b o, b < W.heap.size → w1.frozen? ⟨b, o, none⟩ = W.frozen? ⟨b, o, none⟩) :=
  ⟨fun b o h => hb.cell (p := ⟨b, o, none⟩) h, fun b o h => hb.frozen (p := ⟨b, o, none⟩) h⟩
theorem wv_zero : Value.agg #[.int .u64 0, .int .u64 0, .int .u64 0, .int .u64 0] = wv 0 := by unfold wv; simp only [limb_zero]
theorem wv_one : Value.agg #[.int .u64 1, .int .u64 0, .int .u64 0, .int .u64 0] = wv 1 := wv_small 1 (by omega)
theorem product_ex (a b : Nat) (w : World) :
    Calls Try.prog 56 #[wv a, wv b] w fun e w' => ∃ p : Nat, Hid (p = prodw a b) ∧ e = .returned (wv8 p) ∧ Below w.heap.size w w' :=
  (product_any a b w).mono fun _ _ h => ⟨_, rfl, h.1, h.2⟩
theorem limb_hi0 (a j : Nat) (ha : a < M) (hj : 4 ≤ j) : limb a j = 0 := by
  rw [limb_eq]
  unfold limbN
  rw [Nat.div_eq_of_lt]
  · rfl
  · refine Nat.lt_of_lt_of_le ha ?_
    show 2 ^ 256 ≤ _
    exact Nat.pow_le_pow_right (by omega) (by omega)
theorem wv8_small (a : Nat) (ha : a < M) : Value.agg #[.int .u64 (limb a 0), .int .u64 (limb a 1), .int .u64 (limb a 2), .int .u64 (limb a 3), .int .u64 0, .int .u64 0, .int .u64 0, .int .u64 0] = wv8 a := by
  unfold wv8
  rw [limb_hi0 a 4 ha (by omega), limb_hi0 a 5 ha (by omega), limb_hi0 a 6 ha (by omega), limb_hi0 a 7 ha (by omega)]
theorem widen_w (a : Nat) (w : World) :
    Calls Try.prog 60 #[wv a] w fun e w' => ∃ r : Nat, Hid (r = a % M) ∧ e = .returned (wv8 r) ∧ Below w.heap.size w w' := by
  rw [← wv_mod a]
  refine (widen_any _ _ _ _ w).mono ?_
  rintro e w' ⟨rfl, hb⟩
  exact ⟨_, rfl, congrArg Ending.returned (wv8_small _ (Nat.mod_lt _ Mpos)), hb⟩
theorem divide_ex (a b : Nat) (ha : a < 2 ^ (64 * 8)) (w : World) :
    Calls Try.prog 59 #[wv8 a, wv b] w fun e w' => ∃ q r : Nat, Hid (q = a / (b % M)) ∧ Hid (r = fmod a (b % M)) ∧ e = .returned (.tuple #[wv8 q, wv r]) ∧ Below w.heap.size w w' := by
  rw [← wv_mod b]
  have hb := Nat.mod_lt b Mpos
  generalize b % M = b at *
  by_cases h0 : b = 0
  · subst h0
    refine (divide_zero a 0 (eqw_true rfl) w).mono ?_
    rintro e w' ⟨rfl, hb⟩
    exact ⟨0, 0, by show _ = _; rw [Nat.div_zero], rfl, rfl, hb⟩
  · refine (divide_any a b ha hb h0 w).mono ?_
    rintro e w' ⟨rfl, hb⟩
    exact ⟨_, _, rfl, by show _ = _; unfold fmod; rw [if_neg h0], rfl, hb⟩
theorem low_w (p : Nat) (w : World) :
    Calls Try.prog 57 #[wv8 p] w fun e w' => e = .returned (wv p) ∧ Below w.heap.size w w' := low_any _ _ _ _ _ _ _ _ w
theorem M_le_pow (n : Nat) (h : 256 ≤ n) : M ≤ 2 ^ n := by rw [M_pow]; exact Nat.pow_le_pow_right (by omega) h
theorem lt_pow (a n : Nat) (h : 256 ≤ n) : a % M < 2 ^ n := Nat.lt_of_lt_of_le (Nat.mod_lt _ Mpos) (M_le_pow n h)
theorem lt512 (a : Nat) : a % M < 2 ^ (64 * 8) := by have h := lt_pow a (64 * 8) (by omega); exact h
theorem sub_rel (a b : Nat) : subw a b % M = fsub a (b % M) % M := by
  unfold subw fsub
  rw [Nat.mod_mod, Nat.add_sub_assoc (Nat.le_of_lt (Nat.mod_lt _ Mpos))]
theorem neg_rel (a : Nat) : fsub 0 (a % M) % M = fneg (a % M) % M := by
  unfold fsub fneg; rw [Nat.zero_add]
theorem neg_mod (a : Nat) : neg (a % M) = neg a := by unfold neg; rw [Nat.mod_mod]
theorem mul_rel (a b : Nat) : prodw a b % M = fmul a b % M := by
  unfold prodw fmul; rw [Nat.mod_mod, ← Nat.mul_mod]
set_option maxHeartbeats 1000000 in
theorem add_any (a b : Nat) (w : World) : Calls Try.prog 27 #[wv a, wv b] w (Ret w (fadd a b)) := by
  go_enter Try.func27, Try.ntmps27
  go_wp2_with fail
  refine (carryAdd_ex a b _).mono ?_
  rintro e w1 ⟨s, c, HS, HC, rfl, hb⟩
  have hrz := row_below (row_lit4 (n := w.heap.size + 1 + 1) (fun _ => 0) (by simp) rfl rfl rfl rfl) hb
  have hbel := bcall (bal (bal (bal (Below.refl _ _) _) _) _) hb
  have z := hrz.lt
  have z' := hbel.size
  obtain ⟨x0, x1, x2, x3⟩ := row_cells4 hrz
  have fz := hrz.frozen
  clear hb
  go_wp2
  obtain ⟨q0, q1, q2, q3⟩ := row_cells4 (row_put4 hrz (limb s) rfl rfl rfl rfl)
  refine bodyPost_ret (v := wv s) (by simp [results, Try.results27, go_sem, q0, q1, q2, q3, z]) rfl (ret_mk (by rw [HS.out]; unfold fadd; rw [Nat.mod_mod]) ?_)
  exact bal (below_put4 hbel (by omega) _ _ _ _) _
set_option maxHeartbeats 1000000 in
theorem sub_any (a b : Nat) (w : World) : Calls Try.prog 29 #[wv a, wv b] w (Ret w (fsub a (b % M))) := by
  go_enter Try.func29, Try.ntmps29
  go_wp2_with fail
  refine (borrowSub_ex a b _).mono ?_
  rintro e w1 ⟨s, c, HS, HC, rfl, hb⟩
  have hrz := row_below (row_lit4 (n := w.heap.size + 1 + 1) (fun _ => 0) (by simp) rfl rfl rfl rfl) hb
  have hbel := bcall (bal (bal (bal (Below.refl _ _) _) _) _) hb
  have z := hrz.lt
  have z' := hbel.size
  obtain ⟨x0, x1, x2, x3⟩ := row_cells4 hrz
  have fz := hrz.frozen
  clear hb
  go_wp2
  obtain ⟨q0, q1, q2, q3⟩ := row_cells4 (row_put4 hrz (limb s) rfl rfl rfl rfl)
  refine bodyPost_ret (v := wv s) (by simp [results, Try.results29, go_sem, q0, q1, q2, q3, z]) rfl (ret_mk (by rw [HS.out]; exact sub_rel a b) ?_)
  exact bal (below_put4 hbel (by omega) _ _ _ _) _
set_option maxHeartbeats 1000000 in
theorem negate_any (a : Nat) (w : World) : Calls Try.prog 63 #[wv a] w (Ret w (fneg (a % M))) := by
  go_enter Try.func63, Try.ntmps63
  go_wp2_with fail
  rw [wv_zero]
  refine (sub_any 0 a _).mono ?_
  rintro e w1 ⟨s, HS, rfl, hb⟩
  have hrz := row_below (row_lit4 (n := w.heap.size + 1) (fun _ => 0) (by simp) rfl rfl rfl rfl) hb
  have hbel := bcall (bal (bal (Below.refl _ _) _) _) hb
  have z := hrz.lt
  have z' := hbel.size
  obtain ⟨x0, x1, x2, x3⟩ := row_cells4 hrz
  have fz := hrz.frozen
  clear hb
  go_wp2
  obtain ⟨q0, q1, q2, q3⟩ := row_cells4 (row_put4 hrz (limb s) rfl rfl rfl rfl)
  refine bodyPost_ret (v := wv s) (by simp [results, Try.results63, go_sem, q0, q1, q2, q3, z]) rfl (ret_mk (by rw [HS.out]; exact neg_rel a) ?_)
  exact below_put4 hbel (by omega) _ _ _ _
set_option maxHeartbeats 1000000 in
theorem magnitude_any (a : Nat) (w : World) : Calls Try.prog 61 #[wv a] w (Ret w (fmag (a % M))) := by
  go_enter Try.func61, Try.ntmps61
  go_wp2_with fail
  refine (negative_any a _).mono ?_
  rintro e w1 ⟨rfl, hb⟩
  have hra := row_below (row_lit4 (n := w.heap.size) (limb a) rfl rfl rfl rfl rfl |>.alloc _) hb
  have hrz := row_below (row_lit4 (n := w.heap.size + 1) (fun _ => 0) (by simp) rfl rfl rfl rfl) hb
  have hbel := bcall (bal (bal (Below.refl _ _) _) _) hb
  have z := hrz.lt
  have z' := hbel.size
  obtain ⟨x0, x1, x2, x3⟩ := row_cells4 hrz
  have fz := hrz.frozen
  clear hb
  obtain ⟨y0, y1, y2, y3⟩ := row_cells4 hra
  cases hn : neg a
  · have HN : Hid (neg a = false) := hn
    go_wp2
    obtain ⟨q0, q1, q2, q3⟩ := row_cells4 (row_put4 hrz (limb a) rfl rfl rfl rfl)
    refine bodyPost_ret (v := wv a) (by simp [results, Try.results61, go_sem, q0, q1, q2, q3, z]) rfl (ret_mk (by unfold fmag; rw [neg_mod, HN.out, if_neg (by decide), Nat.mod_mod]) ?_)
    exact below_put4 hbel (by omega) _ _ _ _
  · have HN : Hid (neg a = true) := hn
    go_wp2_with fail
    refine (negate_any a _).mono ?_
    rintro e w2 ⟨s, HS, rfl, hb⟩
    replace hrz := row_below hrz hb
    replace hbel := bcall hbel hb
    replace z := hrz.lt
    replace z' := hbel.size
    clear x0 x1 x2 x3 fz hb
    obtain ⟨x0, x1, x2, x3⟩ := row_cells4 hrz
    have fz := hrz.frozen
    go_wp2
    obtain ⟨q0, q1, q2, q3⟩ := row_cells4 (row_put4 hrz (limb s) rfl rfl rfl rfl)
    refine bodyPost_ret (v := wv s) (by simp [results, Try.results61, go_sem, q0, q1, q2, q3, z]) rfl (ret_mk (by rw [HS.out]; unfold fmag; rw [neg_mod, HN.out, if_pos rfl]) ?_)
    exact below_put4 hbel (by omega) _ _ _ _
set_option maxHeartbeats 1000000 in
theorem mul_any (a b : Nat) (w : World) : Calls Try.prog 28 #[wv a, wv b] w (Ret w (fmul a b)) := by
  go_enter Try.func28, Try.ntmps28
  go_wp2_with fail
  refine (product_ex a b _).mono ?_
  rintro e w1 ⟨p, HP, rfl, hb⟩
  have hrz := row_below (row_lit4 (n := w.heap.size + 1 + 1) (fun _ => 0) (by simp) rfl rfl rfl rfl) hb
  have hbel := bcall (bal (bal (bal (Below.refl _ _) _) _) _) hb
  have z := hrz.lt
  have z' := hbel.size
  obtain ⟨x0, x1, x2, x3⟩ := row_cells4 hrz
  have fz := hrz.frozen
  clear hb
  go_wp2_with fail
  refine (low_w p _).mono ?_
  rintro e w2 ⟨rfl, hb⟩
  replace hrz := row_below hrz hb
  replace hbel := bcall hbel hb
  replace z := hrz.lt
  replace z' := hbel.size
  clear x0 x1 x2 x3 fz hb
  obtain ⟨x0, x1, x2, x3⟩ := row_cells4 hrz
  have fz := hrz.frozen
  go_wp2
  obtain ⟨q0, q1, q2, q3⟩ := row_cells4 (row_put4 hrz (limb p) rfl rfl rfl rfl)
  refine bodyPost_ret (v := wv p) (by simp [results, Try.results28, go_sem, q0, q1, q2, q3, z]) rfl (ret_mk (by rw [HP.out]; exact mul_rel a b) ?_)
  exact below_put4 hbel (by omega) _ _ _ _
end cin
end Go.Proofs.Ytohoajjdoihekaa
