/-
  The walks of math/bits.Mul64 (its own Go text), of mulAdd, and of product: all 512 bits of a product.
-/
import Derived.Test.YtohoajjdoihekaaWa
import Derived.Lib.Mul64
set_option linter.unusedVariables false
set_option linter.unusedSimpArgs false
namespace Go.Proofs.Ytohoajjdoihekaa
open Go.RowKit
namespace cin
theorem maskN (a : Nat) (ha : a < 18446744073709551616) : bits .and .u64 (a : Int) 4294967295 = ((a % 4294967296 : Nat) : Int) := by
  have h := bits_and_u64_nat a 4294967295 ha (by omega)
  have e : a &&& 4294967295 = a % 4294967296 := Nat.and_two_pow_sub_one_eq_mod a 32
  rw [e] at h
  exact h
theorem divN (a : Nat) : (a : Int) / 4294967296 = ((a / 4294967296 : Nat) : Int) := by omega
theorem mulN (a b : Nat) : (a : Int) * (b : Int) = ((a * b : Nat) : Int) := (Int.natCast_mul a b).symm
theorem addN (a b : Nat) : (a : Int) + (b : Int) = ((a + b : Nat) : Int) := (Int.natCast_add a b).symm
theorem wrapN (a : Nat) (ha : a < 18446744073709551616) : IntKind.u64.wrap (a : Int) = (a : Int) := by rw [IntKind.wrap_u64]; omega
theorem wrapM (a : Nat) : IntKind.u64.wrap (a : Int) = ((a % 18446744073709551616 : Nat) : Int) := by rw [IntKind.wrap_u64]; omega
set_option maxHeartbeats 1000000 in
theorem mul64_any (x y : Nat) (hx : x < 18446744073709551616) (hy : y < 18446744073709551616) (w : World) :
    Calls Try.prog 72 #[.int .u64 x, .int .u64 y] w fun e w' => e = .returned (.tuple #[.int .u64 ((x * y / 18446744073709551616 : Nat) : Int), .int .u64 ((x * y % 18446744073709551616 : Nat) : Int)]) ∧ w' = w := by
  obtain ⟨bd, bt, bw, hhi⟩ := Lib.mul64_hi x y hx hy
  have ba := Lib.half_mul_le (a := x / 4294967296) (b := y / 4294967296) (by omega) (by omega)
  have bb := Lib.half_mul_le (a := x / 4294967296) (b := y % 4294967296) (by omega) (by omega)
  have bc := Lib.half_mul_le (a := x % 4294967296) (b := y / 4294967296) (by omega) (by omega)
  have ba' : x / 4294967296 * (y / 4294967296) < 18446744073709551616 := by omega
  have bb' : x / 4294967296 * (y % 4294967296) < 18446744073709551616 := by omega
  have bc' : x % 4294967296 * (y / 4294967296) < 18446744073709551616 := by omega
  have bh1 : x / 4294967296 * (y / 4294967296) + (x / 4294967296 * (y % 4294967296) + x % 4294967296 * (y % 4294967296) / 4294967296) / 4294967296 < 18446744073709551616 := by omega
  have bh : x / 4294967296 * (y / 4294967296) + (x / 4294967296 * (y % 4294967296) + x % 4294967296 * (y % 4294967296) / 4294967296) / 4294967296 + ((x / 4294967296 * (y % 4294967296) + x % 4294967296 * (y % 4294967296) / 4294967296) % 4294967296 + x % 4294967296 * (y / 4294967296)) / 4294967296 < 18446744073709551616 := by omega
  go_enter Try.func72, Try.ntmps72
  go_wp2
  simp only [maskN x hx, maskN y hy, divN, mulN, addN, wrapN _ bd, wrapN _ bb', wrapN _ bt, maskN _ bt, wrapN _ bc', wrapN _ bw, wrapN _ ba', wrapN _ bh1, wrapN _ bh, wrapM (x * y)]
  rw [hhi]
  go_ret2
  exact ⟨rfl, rfl⟩
theorem mul64_ex (x y : Nat) (hx : x < 18446744073709551616) (hy : y < 18446744073709551616) (w : World) :
    Calls Try.prog 72 #[.int .u64 x, .int .u64 y] w fun e w' => ∃ hi lo : Nat, Hid (hi * 18446744073709551616 + lo = x * y) ∧ lo < 18446744073709551616 ∧ hi ≤ 18446744073709551614 ∧ e = .returned (.tuple #[.int .u64 hi, .int .u64 lo]) ∧ w' = w := by
  refine (mul64_any x y hx hy w).mono ?_
  rintro e w' ⟨rfl, rfl⟩
  have h : x * y ≤ 18446744073709551615 * 18446744073709551615 := Nat.mul_le_mul (by omega) (by omega)
  generalize x * y = p at *
  exact ⟨_, _, by show _ = _; omega, Nat.mod_lt _ (by omega), by omega, rfl, rfl⟩
theorem add64_ex (x y : Nat) : ∃ s c : Nat, Hid (s + c * 18446744073709551616 = x + y) ∧ s < 18446744073709551616 ∧ (x < 18446744073709551616 → y < 18446744073709551616 → c ≤ 1) ∧
    ∀ w : World, (callFunc 68 #[.int .u64 x, .int .u64 y, .int .u64 0]).run Try.prog w = .ok (.value (.tuple #[.int .u64 s, .int .u64 c])) w := by
  refine ⟨(x + y) % 18446744073709551616, (x + y) / 18446744073709551616, by show _ = _; omega, Nat.mod_lt _ (by omega), fun _ _ => by omega, fun w => ?_⟩
  rw [call_add64 _ _ _ (by omega) (by omega) (by omega) (by omega)]
  have e1 : ((x : Int) + y + 0) % 18446744073709551616 = (((x + y) % 18446744073709551616 : Nat) : Int) := by omega
  have e2 : ((x : Int) + y + 0) / 18446744073709551616 = (((x + y) / 18446744073709551616 : Nat) : Int) := by omega
  rw [e1, e2]
theorem mulAdd_fin {x y m s hi lo s1 c1 s2 c2 : Nat} (h1 : hi * 18446744073709551616 + lo = x * y) (h2 : s1 + c1 * 18446744073709551616 = lo + m) (h3 : s2 + c2 * 18446744073709551616 = s1 + s) (h4 : s2 < 18446744073709551616) :
    hi + c1 + c2 = (x * y + m + s) / 18446744073709551616 ∧ s2 = (x * y + m + s) % 18446744073709551616 := by
  rw [← h1]; omega
theorem mulAdd_bd {x y m s hi lo s1 c1 s2 c2 : Nat} (hx : x < 18446744073709551616) (hy : y < 18446744073709551616) (hm : m < 18446744073709551616) (hs : s < 18446744073709551616) (h1 : hi * 18446744073709551616 + lo = x * y) (h2 : s1 + c1 * 18446744073709551616 = lo + m) (h3 : s2 + c2 * 18446744073709551616 = s1 + s) :
    hi + c1 + c2 ≤ 18446744073709551615 := by
  have h : x * y ≤ 18446744073709551615 * 18446744073709551615 := Nat.mul_le_mul (by omega) (by omega)
  rw [← h1] at h; omega
set_option maxHeartbeats 1000000 in
theorem mulAdd_any (x y m s : Nat) (hx : x < 18446744073709551616) (hy : y < 18446744073709551616) (hm : m < 18446744073709551616) (hs : s < 18446744073709551616) (w : World) :
    Calls Try.prog 69 #[.int .u64 x, .int .u64 y, .int .u64 m, .int .u64 s] w fun e w' => e = .returned (.tuple #[.int .u64 (((x * y + m + s) / 18446744073709551616 : Nat) : Int), .int .u64 (((x * y + m + s) % 18446744073709551616 : Nat) : Int)]) ∧ w' = w := by
  go_enter Try.func69, Try.ntmps69
  go_wp2_with fail
  refine (mul64_ex x y hx hy _).mono ?_
  rintro e w' ⟨hi, lo, h1, l1, l2, rfl, rfl⟩
  obtain ⟨s1, c1, h2, l3, l4, r1⟩ := add64_ex lo m
  obtain ⟨s2, c2, h3, l5, l6, r2⟩ := add64_ex s1 s
  have b1 := mulAdd_bd hx hy hm hs h1.out h2.out h3.out
  clear l4 l6
  go_wp2
  go_ret2
  obtain ⟨f1, f2⟩ := mulAdd_fin h1.out h2.out h3.out l5
  refine ⟨?_, rfl⟩
  rw [← f1, ← f2]
  rfl
theorem mulAdd_ex (x y m s : Nat) (hx : x < 18446744073709551616) (hy : y < 18446744073709551616) (hm : m < 18446744073709551616) (hs : s < 18446744073709551616) (w : World) :
    Calls Try.prog 69 #[.int .u64 x, .int .u64 y, .int .u64 m, .int .u64 s] w fun e w' => ∃ h l : Nat, Hid (h = (x * y + m + s) / 18446744073709551616) ∧ Hid (l = (x * y + m + s) % 18446744073709551616) ∧ h < 18446744073709551616 ∧ l < 18446744073709551616 ∧ e = .returned (.tuple #[.int .u64 h, .int .u64 l]) ∧ w = w' := by
  refine (mulAdd_any x y m s hx hy hm hs w).mono ?_
  rintro e w' ⟨rfl, rfl⟩
  exact ⟨_, _, rfl, rfl, mul_add_lt hx hy hm hs, Nat.mod_lt _ (by omega), rfl, rfl⟩
theorem index4 (a k : Nat) (hk : k < 4) (w : World) : (Instr.index 24 (.agg #[.int .u64 (limb a 0), .int .u64 (limb a 1), .int .u64 (limb a 2), .int .u64 (limb a 3)]) (.int .i64 (k : Int))).run Try.prog w = .ok (.int .u64 (limbN a k : Int)) w := by
  rcases k4 hk with rfl | rfl | rfl | rfl <;> kernel_rfl
set_option maxHeartbeats 2000000 in
theorem product_any (a b : Nat) (w : World) :
    Calls Try.prog 56 #[wv a, wv b] w fun e w' => e = .returned (wv8 (prodw a b)) ∧ Below w.heap.size w w' := by
  go_enter Try.func56, Try.ntmps56
  go_wp2
  go_loopw [12] (fun t12 wr => ∃ (i : Nat) (f : Nat → Nat), i ≤ 4 ∧ t12 = .int .i64 i ∧
      wr.rowIs (w.heap.size + 1) 24 4 (u64s (limb b)) ∧ wr.rowIs (w.heap.size + 1 + 1) 53 8 (u64s fun _ => 0) ∧ wr.rowIs (w.heap.size + 1 + 1 + 1) 53 8 (u64s (nats f)) ∧
      (∀ q, f q < 18446744073709551616) ∧ (∀ q, i + 4 ≤ q → f q = 0) ∧ Hid (val f 8 = a % 2 ^ (64 * i) * (b % 2 ^ (64 * 4))) ∧ Below w.heap.size w wr)
     (fun t12 _ => 4 - (intOf t12).toNat)
  case atStart =>
    refine ⟨0, fun _ => 0, by omega, rfl, ?_, ?_, ?_, fun _ => by show (0 : Nat) < _; omega, fun _ _ => rfl, ?_, ?_⟩
    · exact (((row_lit4 (limb b) (by simp) rfl rfl rfl rfl).alloc _).alloc _)
    · exact (row_lit8 (fun _ => 0) (by simp) rfl rfl rfl rfl rfl rfl rfl rfl).alloc _
    · exact (row_lit8 _ (by simp) rfl rfl rfl rfl rfl rfl rfl rfl)
    · show _ = _; rw [Nat.mul_zero, Nat.pow_zero, Nat.mod_one, Nat.zero_mul, val_zero]
    · exact ((((Below.refl _ _).alloc (Nat.le_refl _) _).alloc (by simp) _).alloc (by simp; omega) _).alloc (by simp; omega) _
  case round =>
    obtain ⟨i, f, hi, rfl, hrb, hrz, hrs, hfl, hfz, hval, hbel⟩ := hrel
    by_cases hlt : i < 4
    · have hix := index4 a i hlt
      have hdi : decide ((i : Int) < 4) = true := by simp; omega
      obtain ⟨c0, c1, c2, c3⟩ := row_cells4 hrb
      go_wp2
      go_loopw [8, 17] (fun t8 t17 wq => ∃ (j : Nat) (g : Nat → Nat) (c : Nat), j ≤ 4 ∧ t17 = .int .i64 j ∧ t8 = .int .u64 c ∧ c < 18446744073709551616 ∧
          wq.rowIs (w.heap.size + 1) 24 4 (u64s (limb b)) ∧ wq.rowIs (w.heap.size + 1 + 1) 53 8 (u64s fun _ => 0) ∧ wq.rowIs (w.heap.size + 1 + 1 + 1) 53 8 (u64s (nats g)) ∧
          (∀ q, g q < 18446744073709551616) ∧ (∀ q, i + 4 ≤ q → g q = 0) ∧ Hid (val g 8 + c * 2 ^ (64 * (i + j)) = a % 2 ^ (64 * i) * (b % 2 ^ (64 * 4)) + limbN a i * (b % 2 ^ (64 * j)) * 2 ^ (64 * i)) ∧ Below w.heap.size w wq)
         (fun _ t17 _ => 4 - (intOf t17).toNat)
      case atStart =>
        refine ⟨0, f, 0, by omega, rfl, rfl, by omega, hrb, hrz, hrs, hfl, hfz, ?_, hbel⟩
        show _ = _
        rw [hval.out]; simp [Nat.mod_one]
      case round =>
        clear hrb hrz hrs hfl hfz hbel
        obtain ⟨j, g, c, hj, rfl, rfl, hc, hrb, hrz, hrs, hgl, hgz, hv2, hbel⟩ := hrel
        by_cases hlj : j < 4
        · have hiy := index4 b j hlj
          have cs := hrs.cell (i := i + j) (by omega)
          have fs := hrs.frozen (i + j)
          simp only [u64s, nats] at cs
          go_wp2_with fail
          refine (mulAdd_ex (limbN a i) (limbN b j) (g (i + j)) c (limbN_lt _ _) (limbN_lt _ _) (hgl _) hc _).mono ?_
          rintro e w' ⟨h, l, hh, hl, bh, bl, rfl, rfl⟩
          go_wp2
          go_roundw
          case rel =>
            refine ⟨j + 1, upd g (i + j) l, h, by omega, ?_, rfl, bh, hrb.setOther (by simp) _, hrz.setOther (by simp) _, row_upd hrs _ _, upd_lt hgl bl, ?_, ?_, hbel.setCell (by simp; omega) _⟩
            · go_num
            · intro q hq; unfold upd; rw [if_neg (by omega)]; exact hgz q hq
            · show _ = _
              rw [hh.out, hl.out]; exact prod_inner (by omega) rfl hv2.out
          case measure => simp [intOf]; omega
        · obtain rfl : j = 4 := by omega
          have cs := hrs.cell (i := i + 4) (by omega)
          have fs := hrs.frozen (i + 4)
          simp only [u64s, nats] at cs
          go_wp2
          go_roundw
          case rel =>
            refine ⟨i + 1, upd g (i + 4) c, by omega, by go_num, hrb.setOther (by simp) _, hrz.setOther (by simp) _, row_upd hrs _ _, upd_lt hgl hc, ?_, ?_, hbel.setCell (by simp; omega) _⟩
            · intro q hq; unfold upd; rw [if_neg (by omega)]; exact hgz q (by omega)
            · show _ = _
              exact prod_outer hlt rfl (hgz _ (by omega)) hv2.out
          case measure => simp [intOf]; omega
    · obtain rfl : i = 4 := by omega
      have hv := hval.out
      rw [prod_fin] at hv
      have hrow : wr.rowIs (w.heap.size + 1 + 1 + 1) 53 8 (u64s (limb (prodw a b))) := hrs.congr fun i hi => by simp only [u64s, nats]; rw [limbs_of_val hfl hv i hi]
      clear hval hv hrs
      obtain ⟨c0, c1, c2, c3, c4, c5, c6, c7⟩ := row_cells8 hrow
      obtain ⟨z0, z1, z2, z3, z4, z5, z6, z7⟩ := row_cells8 hrz
      have f0 := hrz.frozen
      go_wp2
      obtain ⟨q0, q1, q2, q3, q4, q5, q6, q7⟩ := row_cells8 (row_set8 hrz (limb (prodw a b) 0) (limb (prodw a b) 1) (limb (prodw a b) 2) (limb (prodw a b) 3) (limb (prodw a b) 4) (limb (prodw a b) 5) (limb (prodw a b) 6) (limb (prodw a b) 7))
      simp only [pick8] at q0 q1 q2 q3 q4 q5 q6 q7
      refine bodyPost_ret (v := wv8 (prodw a b)) (by simp [results, Try.results56, go_sem, q0, q1, q2, q3, q4, q5, q6, q7]) rfl ⟨rfl, ?_⟩
      exact (((((((hbel.setCell (by simp; omega) _).setCell (by simp; omega) _).setCell (by simp; omega) _).setCell (by simp; omega) _).setCell (by simp; omega) _).setCell (by simp; omega) _).setCell (by simp; omega) _).setCell (by simp; omega) _
end cin
end Go.Proofs.Ytohoajjdoihekaa
