/-
  The walks of package word's powers.
-/
import Derived.Test.YtohoajjdoihekaaWg
set_option linter.unusedVariables false
set_option linter.unusedSimpArgs false
namespace Go.Proofs.Ytohoajjdoihekaa
open Go.RowKit
namespace cin
def Pk (a b k : Nat) : Nat := a ^ (b / 2 ^ k) % M
theorem Pk_top (a b L : Nat) (h : b < 2 ^ L) : Pk a b L = 1 % M := by unfold Pk; rw [Nat.div_eq_of_lt h, Nat.pow_zero]
theorem Pk_zero (a b : Nat) : Pk a b 0 = fexp a b := by unfold Pk fexp; simp
theorem pow_mod (a n : Nat) : a ^ n % M = (a % M) ^ n % M := Nat.pow_mod a n M
theorem Pk_sq {a b i p r : Nat} (h : p % M = Pk a b (i + 1)) (h0 : bitN b i = 0) (hr : r = fmul p p) : r % M = Pk a b i := by
  unfold Pk at *
  rw [half_step b i, h0, Nat.add_zero, Nat.two_mul, Nat.pow_add, hr]
  unfold fmul
  rw [Nat.mod_mod, Nat.mul_mod, h, ← Nat.mul_mod]
theorem Pk_mul {a b i p r s : Nat} (h : p % M = Pk a b (i + 1)) (h1 : bitN b i = 1) (hr : r = fmul p p) (hs : s = fmul r a) : s % M = Pk a b i := by
  unfold Pk at *
  rw [half_step b i, h1, Nat.two_mul, Nat.pow_add, Nat.pow_add, Nat.pow_one, hs, hr]
  unfold fmul
  have e : p * p % M = a ^ (b / 2 ^ (i + 1)) * a ^ (b / 2 ^ (i + 1)) % M := by rw [Nat.mul_mod, h, ← Nat.mul_mod]
  rw [Nat.mod_mod, e, Nat.mod_mul_mod]
structure EX (w : World) (a b : Nat) (x : World) : Prop where
  ra : x.rowIs w.heap.size 24 4 (u64s (limb a))
  rb : x.rowIs (w.heap.size + 1) 24 4 (u64s (limb b))
  rz : x.rowIs (w.heap.size + 1 + 1) 24 4 (u64s fun _ => 0)
  be : Below w.heap.size w x
theorem EX.call {w : World} {a b : Nat} {x y : World} (h : EX w a b x) (hb : Below x.heap.size x y) : EX w a b y := ⟨row_below h.ra hb, row_below h.rb hb, row_below h.rz hb, bcall h.be hb⟩
theorem EX.put {w : World} {a b : Nat} {x : World} (h : EX w a b x) (v0 v1 v2 v3 : Value) : EX w a b ((((x.setCell ⟨w.heap.size + 1 + 1 + 1, 0, none⟩ v0).setCell ⟨w.heap.size + 1 + 1 + 1, 1, none⟩ v1).setCell ⟨w.heap.size + 1 + 1 + 1, 2, none⟩ v2).setCell ⟨w.heap.size + 1 + 1 + 1, 3, none⟩ v3) :=
  ⟨row_keep4 h.ra (by omega) _ _ _ _, row_keep4 h.rb (by omega) _ _ _ _, row_keep4 h.rz (by omega) _ _ _ _, below_put4 h.be (by omega) _ _ _ _⟩
theorem EX.start (w : World) (a b : Nat) {o : Obj} : EX w a b ((((w.alloc (.cells #[.int .u64 (limb a 0), .int .u64 (limb a 1), .int .u64 (limb a 2), .int .u64 (limb a 3)] 24)).alloc (.cells #[.int .u64 (limb b 0), .int .u64 (limb b 1), .int .u64 (limb b 2), .int .u64 (limb b 3)] 24)).alloc (.cells #[.int .u64 0, .int .u64 0, .int .u64 0, .int .u64 0] 24)).alloc o) :=
  ⟨row_lit4 (limb a) rfl rfl rfl rfl rfl |>.alloc _ |>.alloc _ |>.alloc _, row_lit4 (limb b) (by simp) rfl rfl rfl rfl |>.alloc _ |>.alloc _, row_lit4 (fun _ => 0) (by simp) rfl rfl rfl rfl |>.alloc _, bal (bal (bal (bal (Below.refl _ _) _) _) _) _⟩
theorem one_limbs : (1 : Int) = limb 1 0 ∧ (0 : Int) = limb 1 1 ∧ (0 : Int) = limb 1 2 ∧ (0 : Int) = limb 1 3 := by
  unfold limb; rw [pw0, pw1, pw2, pw3]; decide
set_option maxRecDepth 100000 in
set_option maxHeartbeats 4000000 in
theorem exp_lt (a b : Nat) (hb : b < 2 ^ (64 * 4)) (w : World) : Calls Try.prog 36 #[wv a, wv b] w (Ret w (fexp a b)) := by
  have HB : Hid (b < 2 ^ (64 * 4)) := hb
  clear hb
  go_enter Try.func36, Try.ntmps36
  go_wp2_with fail
  refine (bitLength_any b 4 (w.heap.size + 1) 24 _ (by omega) HB.out ?_).mono ?_
  · exact row_lit4 (limb b) (by simp) rfl rfl rfl rfl |>.alloc _ |>.alloc _
  rintro e w' ⟨L, hL, hLb, rfl, rfl⟩
  have HL : Hid (b < 2 ^ L) := hLb
  clear hLb
  go_wp2
  go_loopw [6] (fun t6 wr => ∃ (k p : Nat), k ≤ 256 ∧ t6 = .int .i64 ((k : Int) - 1) ∧ EX w a b wr ∧ wr.rowIs (w.heap.size + 1 + 1 + 1) 24 4 (u64s (limb p)) ∧ Hid (p % M = Pk a b k))
     (fun t6 _ => (intOf t6 + 1).toNat)
  case atStart =>
    obtain ⟨o0, o1, o2, o3⟩ := one_limbs
    exact ⟨L, 1, by omega, by go_num, EX.start w a b, row_lit4 (limb 1) (by simp) o0 o1 o2 o3, (Pk_top a b L HL.out).symm⟩
  case round =>
    clear HL hL
    obtain ⟨k, p, hk, rfl, hx, hp, HP⟩ := hrel
    rcases Nat.eq_zero_or_pos k with rfl | hpos
    · obtain ⟨r0, r1, r2, r3⟩ := row_cells4 hp
      obtain ⟨x0, x1, x2, x3⟩ := row_cells4 hx.rz
      have fz := hx.rz.frozen
      have hbel := hx.be
      go_wp2
      obtain ⟨q0, q1, q2, q3⟩ := row_cells4 (row_put4 hx.rz (limb p) rfl rfl rfl rfl)
      refine bodyPost_ret (v := wv p) (by simp [results, Try.results36, go_sem, q0, q1, q2, q3]) rfl (ret_mk (by rw [HP.out, Pk_zero, Nat.mod_eq_of_lt (fexp_lt a b)]) ?_)
      exact below_put4 hbel (by omega) _ _ _ _
    · obtain ⟨i, rfl⟩ : ∃ i, k = i + 1 := ⟨k - 1, by omega⟩
      clear hpos
      have ek : ((i + 1 : Nat) : Int) - 1 = (i : Int) := by omega
      rw [ek]
      obtain ⟨r0, r1, r2, r3⟩ := row_cells4 hp
      go_wp2_with fail
      refine (mul_any p p _).mono ?_
      rintro e w1 ⟨r, HR, rfl, hb1⟩
      replace hx := hx.call hb1
      replace hp := row_below hp hb1
      clear hb1 r0 r1 r2 r3
      obtain ⟨r0, r1, r2, r3⟩ := row_cells4 hp
      have fp := hp.frozen
      obtain ⟨bt, HBT⟩ : ∃ bt, Hid (bt = bitN b i) := ⟨_, rfl⟩
      go_wp2_with fail
      replace hx := hx.put (.int .u64 (limb r 0)) (.int .u64 (limb r 1)) (.int .u64 (limb r 2)) (.int .u64 (limb r 3))
      replace hp := row_put4 hp (limb r) rfl rfl rfl rfl
      refine (bitAt_N b 4 i (w.heap.size + 1) 24 _ (by omega) (by omega) hx.rb).mono ?_
      rintro e w2 ⟨rfl, rfl⟩
      rw [← HBT.out]
      clear r0 r1 r2 r3 fp
      have hbt : bt ≤ 1 := by rw [HBT.out]; exact bitN_le b i
      have hbt2 : bt = 0 ∨ bt = 1 := by omega
      clear hbt
      rcases hbt2 with rfl | rfl
      · go_wp2
        go_roundw
        case rel => exact ⟨i, r, by omega, rfl, hx, hp, Pk_sq HP.out HBT.out.symm HR.out⟩
        case measure => simp [intOf]
      · obtain ⟨r0, r1, r2, r3⟩ := row_cells4 hp
        obtain ⟨a0, a1, a2, a3⟩ := row_cells4 hx.ra
        go_wp2_with fail
        refine (mul_any r a _).mono ?_
        rintro e w3 ⟨s, HS, rfl, hb3⟩
        replace hx := hx.call hb3
        replace hp := row_below hp hb3
        clear hb3 r0 r1 r2 r3 a0 a1 a2 a3
        obtain ⟨r0, r1, r2, r3⟩ := row_cells4 hp
        have fp := hp.frozen
        go_wp2
        go_roundw
        case rel => exact ⟨i, s, by omega, rfl, hx.put _ _ _ _, row_put4 hp (limb s) rfl rfl rfl rfl, Pk_mul HP.out HBT.out.symm HR.out HS.out⟩
        case measure => simp [intOf]
theorem fexp_mod (a b : Nat) : fexp a b = fexp (a % M) b := by unfold fexp; exact pow_mod a b
theorem exp_any (a b : Nat) (w : World) : Calls Try.prog 36 #[wv a, wv b] w (Ret w (fexp (a % M) (b % M))) := by
  rw [← wv_mod b, ← fexp_mod]
  exact exp_lt a (b % M) (Nat.mod_lt _ Mpos) w
end cin
end Go.Proofs.Ytohoajjdoihekaa
