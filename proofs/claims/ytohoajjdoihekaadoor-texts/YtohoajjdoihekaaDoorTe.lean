/-
  Numbers in texts, the program's way: a word times a base and a digit more; digits.
-/
import Derived.Test.YtohoajjdoihekaaDoorTd
import Derived.Test.YtohoajjdoihekaaDoorBs
import Derived.Test.YtohoajjdoihekaaDoorWc
set_option linter.unusedVariables false
set_option linter.unusedSimpArgs false
namespace Go.Proofs.YtohoajjdoihekaaDoor
open Go.RowKit
namespace cin
/-- the carry into limb k of a times b and d more -/
def cym (a b d k : Nat) : Nat := (a % 2 ^ (64 * k) * b + d) / 2 ^ (64 * k)
theorem cym0 (a b d : Nat) : cym a b d 0 = d := by unfold cym; rw [pw0, Nat.mod_one, Nat.zero_mul, Nat.zero_add, Nat.div_one]
theorem cym_step (a b d k : Nat) : limbN a k * b + cym a b d k = cym a b d (k + 1) * 18446744073709551616 + limbN (a * b + d) k := by
  have hq : limbN a k = a / 2 ^ (64 * k) % 18446744073709551616 := rfl
  have hr : limbN (a * b + d) k = (a * b + d) / 2 ^ (64 * k) % 18446744073709551616 := rfl
  have hp : 2 ^ (64 * (k + 1)) = 2 ^ (64 * k) * 18446744073709551616 := by rw [Nat.mul_succ, Nat.pow_add]
  unfold cym
  rw [hq, hr, hp]
  obtain ⟨P, hP, hP0⟩ : ∃ P, P = 2 ^ (64 * k) ∧ 0 < P := ⟨_, rfl, Nat.two_pow_pos _⟩
  rw [← hP]
  obtain ⟨x, hx⟩ : ∃ x, x = a % P := ⟨_, rfl⟩
  obtain ⟨h, hh⟩ : ∃ h, h = a / P := ⟨_, rfl⟩
  have ha : a = P * h + x := by rw [hh, hx, Nat.div_add_mod]
  have hxl : x < P := by rw [hx]; exact Nat.mod_lt _ hP0
  obtain ⟨q, hqq⟩ : ∃ q, q = h % 18446744073709551616 := ⟨_, rfl⟩
  obtain ⟨g, hg⟩ : ∃ g, g = h / 18446744073709551616 := ⟨_, rfl⟩
  have hhg : h = 18446744073709551616 * g + q := by rw [hg, hqq, Nat.div_add_mod]
  have e1 : a % (P * 18446744073709551616) = P * q + x := by
    rw [Nat.mod_mul, ← hx, ← hh, ← hqq, Nat.add_comm]
  rw [e1, ← hx, ← hh, ← hqq]
  have e2 : (P * q + x) * b + d = P * (q * b) + (x * b + d) := by rw [Nat.add_mul, Nat.mul_assoc, Nat.add_assoc]
  have e3 : ((P * q + x) * b + d) / (P * 18446744073709551616) = (q * b + (x * b + d) / P) / 18446744073709551616 := by
    rw [← Nat.div_div_eq_div_mul, e2, Nat.mul_add_div hP0]
  have e4 : (a * b + d) / P = h * b + (x * b + d) / P := by
    rw [ha, show (P * h + x) * b + d = P * (h * b) + (x * b + d) by rw [Nat.add_mul, Nat.mul_assoc, Nat.add_assoc], Nat.mul_add_div hP0]
  rw [e3, e4]
  generalize (x * b + d) / P = c
  have e5 : h * b + c = 18446744073709551616 * (g * b) + (q * b + c) := by rw [hhg, Nat.add_mul, Nat.mul_assoc, Nat.add_assoc]
  rw [e5, Nat.mul_add_mod]
  generalize q * b + c = t
  omega
theorem cym_lt (a b d k : Nat) (hb : b < 100) (hd : d < 100) : cym a b d k < 200 := by
  unfold cym
  have hP : 0 < 2 ^ (64 * k) := Nat.two_pow_pos _
  rw [Nat.div_lt_iff_lt_mul hP]
  have h1 : a % 2 ^ (64 * k) < 2 ^ (64 * k) := Nat.mod_lt _ hP
  have h2 : a % 2 ^ (64 * k) * b ≤ 2 ^ (64 * k) * 99 := Nat.mul_le_mul (by omega) (by omega)
  omega
theorem cym4 (a b d : Nat) (ha : a < M) : (cym a b d 4 ≠ 0) ↔ M ≤ a * b + d := by
  unfold cym
  have e : 2 ^ (64 * 4) = M := pw4
  rw [e, Nat.mod_eq_of_lt ha, Ne, Nat.div_eq_zero_iff]
  unfold M
  omega
theorem row_stepN {w : World} {b : Nat} {t : TypeId} {n k : Nat} {f g : Nat → Int} (h : w.rowIs b t n (u64s fun i => if i < k then f i else g i)) {x : Int} (hx : x = f k) :
    (w.setCell ⟨b, k, none⟩ (.int .u64 x)).rowIs b t n (u64s fun i => if i < k + 1 then f i else g i) := row_step h hx
theorem tp_num {q b c hi lo s1 c1 c' r : Nat} (h0 : q * b + c = c' * 18446744073709551616 + r) (hr : r < 18446744073709551616) (h1 : hi * 18446744073709551616 + lo = q * b) (h2 : s1 + c1 * 18446744073709551616 = lo + c) (h3 : s1 < 18446744073709551616) : s1 = r ∧ hi + c1 = c' := by
  rw [← h1] at h0
  omega
set_option maxRecDepth 100000 in
set_option maxHeartbeats 2000000 in
theorem timesPlus_any (a b d : Nat) (ha : Hid (a < M)) (hb : b < 100) (hd : d < 100) (w : World) : Calls Tryd.prog 44 #[wv a, .int .u64 (b : Int), .int .u64 (d : Int)] w fun e w' => ∃ r : Nat, Hid (r = (a * b + d) % M) ∧ e = .returned (.tuple #[wv r, .bool (decide (M ≤ a * b + d))]) ∧ Below w.heap.size w w' := by
  obtain ⟨R, HR⟩ : ∃ R, Hid (R = a * b + d) := ⟨_, rfl⟩
  go_enter Tryd.func44, Tryd.ntmps44
  go_wp2
  go_loopw [8, 15] (fun t8 t15 wr => ∃ k c : Nat, k ≤ 4 ∧ t15 = .int .i64 k ∧ t8 = .int .u64 c ∧ c < 200 ∧ Hid (c = cym a b d k) ∧ wr.rowIs w.heap.size 58 4 (u64s fun i => if i < k then limb R i else limb a i) ∧ wr.rowIs (w.heap.size + 1) 58 4 (u64s fun _ => 0) ∧ Below w.heap.size w wr)
     (fun _ t15 _ => 4 - (intOf t15).toNat)
  case atStart =>
    exact ⟨0, d, by omega, rfl, rfl, by omega, (cym0 a b d).symm, (row_lit4 _ rfl rfl rfl rfl rfl).alloc _, row_lit4 (fun _ => 0) (by simp) rfl rfl rfl rfl, bal (bal (Below.refl _ _) _) _⟩
  case round =>
    obtain ⟨k, c, hk, rfl, rfl, hc, HC, hra, hrz, hbel⟩ := hrel
    by_cases hlt : k < 4
    · have hdk : decide ((k : Int) < 4) = true := by simp; omega
      have ca := hra.cell hlt
      have fa := hra.frozen k
      simp only [u64s, Nat.lt_irrefl, if_false, limb_eq] at ca
      have hst := cym_step a b d k
      rw [← HC.out, ← HR.out] at hst
      have HS : Hid (limbN a k * b + c = cym a b d (k + 1) * 18446744073709551616 + limbN R k) := hst
      have HN : Hid (cym a b d (k + 1) < 200) := cym_lt a b d (k + 1) hb hd
      clear hst
      go_wp2_with fail
      refine (mul64_ex (limbN a k) b (limbN_lt _ _) (by omega) _).mono ?_
      rintro e w' ⟨hi, lo, h1, l1, l2, rfl, rfl⟩
      obtain ⟨s1, c1, h2, l3, l4, r1⟩ := add64_ex lo c
      obtain ⟨e1, e2⟩ := tp_num HS.out (limbN_lt _ _) h1.out h2.out l3
      have hsum : hi + c1 < 200 := by rw [e2]; exact HN.out
      have E1 : Hid (s1 = limbN R k) := e1
      have E2 : Hid (hi + c1 = cym a b d (k + 1)) := e2
      clear l4 l1 l2 l3 e1 e2
      go_wp2
      go_roundw
      case rel =>
        exact ⟨k + 1, hi + c1, by omega, by go_num, by go_num, hsum, E2, row_stepN hra (by rw [E1.out]; rfl), hrz.setOther (by simp) _, bset hbel (by simp) _⟩
      case measure => simp [intOf]; omega
    · obtain rfl : k = 4 := by omega
      have hrow : wr.rowIs w.heap.size 58 4 (u64s (limb R)) := hra.congr fun i hi => by simp only [u64s]; rw [if_pos hi]
      clear hra
      have HB : Hid ((((c : Nat) : Int) != 0) = decide (M ≤ a * b + d)) := by
        show _ = _
        rw [Bool.eq_iff_iff, decide_eq_true_eq, ← cym4 a b d ha.out, ← HC.out]
        simp
      obtain ⟨c0, c1, c2, c3⟩ := row_cells4 hrow
      obtain ⟨z0, z1, z2, z3⟩ := row_cells4 hrz
      have f0 := hrz.frozen
      go_wp2
      obtain ⟨q0, q1, q2, q3⟩ := row_cells4 (row_put4 hrz (limb R) rfl rfl rfl rfl)
      refine bodyPost_ret (v := .tuple #[wv R, .bool (((c : Nat) : Int) != 0)]) (by simp [results, Tryd.results44, go_sem, q0, q1, q2, q3]) rfl ⟨(a * b + d) % M, rfl, ?_, below_put4 hbel (by omega) _ _ _ _⟩
      rw [HB.out, ← HR.out, wv_mod]
end cin
end Go.Proofs.YtohoajjdoihekaaDoor
