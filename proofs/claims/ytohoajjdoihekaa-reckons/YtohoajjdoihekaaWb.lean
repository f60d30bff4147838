/-
  The walks of package word's functions on limbs: bits by themselves, the sign, words made wide and narrow.
-/
import Derived.Test.YtohoajjdoihekaaRows
import Derived.Test.YtohoajjdoihekaaMem
import Derived.WalkKit
import Derived.WalkSpells
import Derived.WalkLawsBesides
import Derived.BigRegion
import Derived.Deep.RegionWith
import Derived.Deep.QuietTactic
import Derived.BigQuiet
set_option linter.unusedVariables false
set_option linter.unusedSimpArgs false
namespace Go.Proofs.Ytohoajjdoihekaa
open Go.RowKit
namespace cin
theorem bits_and_limb (a b k : Nat) : bits .and .u64 (limb a k) (limb b k) = limb (a &&& b) k := by
  unfold limb
  rw [bits_and_u64_nat _ _ (Nat.mod_lt _ (by omega)) (Nat.mod_lt _ (by omega)), limb_and a b k]
theorem bits_or_limb (a b k : Nat) : bits .or .u64 (limb a k) (limb b k) = limb (a ||| b) k := by
  unfold limb
  rw [bits_or_u64_nat _ _ (Nat.mod_lt _ (by omega)) (Nat.mod_lt _ (by omega)), limb_or a b k]
theorem bits_xor_limb (a b k : Nat) : bits .xor .u64 (limb a k) (limb b k) = limb (a ^^^ b) k := by
  unfold limb
  rw [bits_xor_u64_nat _ _ (Nat.mod_lt _ (by omega)) (Nat.mod_lt _ (by omega)), limb_xor a b k]
set_option maxHeartbeats 1000000 in
theorem and_any (a b : Nat) (w : World) :
    Calls Try.prog 41 #[wv a, wv b] w fun e w' => e = .returned (wv (a &&& b)) ∧ Below w.heap.size w w' := by
  go_enter Try.func41, Try.ntmps41
  go_wp2
  go_loopw [6] (fun t6 wr => ∃ k : Nat, k ≤ 4 ∧ t6 = .int .i64 k ∧
      wr.rowIs w.heap.size 24 4 (u64s fun i => if i < k then limb (a &&& b) i else limb a i) ∧ wr.rowIs (w.heap.size + 1) 24 4 (u64s (limb b)) ∧ wr.rowIs (w.heap.size + 1 + 1) 24 4 (u64s fun _ => 0) ∧
      Below w.heap.size w wr)
     (fun t6 _ => 4 - (intOf t6).toNat)
  case atStart =>
    refine ⟨0, by omega, rfl, ?_, ?_, ?_, ?_⟩
    · exact (((row_lit4 _ rfl rfl rfl rfl rfl).alloc _).alloc _)
    · exact ((row_lit4 (limb b) (by simp) rfl rfl rfl rfl).alloc _)
    · exact (row_lit4 (fun _ => 0) (by simp) rfl rfl rfl rfl)
    · exact (((Below.refl _ _).alloc (Nat.le_refl _) _).alloc (by simp) _).alloc (by simp; omega) _
  case round =>
    obtain ⟨k, hk, rfl, hra, hrb, hrz, hbel⟩ := hrel
    by_cases hlt : k < 4
    · have c1 := hra.cell hlt
      have c2 := hrb.cell hlt
      have c4 := hra.frozen k
      simp only [u64s, Nat.lt_irrefl, if_false] at c1 c2
      go_wp2
      go_region
      all_goals go_wp2
      all_goals go_roundw
      case rel =>
        exact ⟨k + 1, by omega, by go_num, (row_step hra (bits_and_limb a b k)).drew, (hrb.setOther (by simp) _).drew, (hrz.setOther (by simp; omega) _).drew, (hbel.setCell (by simp) _).drew⟩
      case measure => simp [intOf]; omega
    · obtain rfl : k = 4 := by omega
      obtain ⟨c0, c1, c2, c3⟩ := row_cells4 hra
      obtain ⟨z0, z1, z2, z3⟩ := row_cells4 hrz
      have f0 := hrz.frozen
      go_wp2
      obtain ⟨q0, q1, q2, q3⟩ := row_cells4 (row_set4 hrz (limb (a &&& b) 0) (limb (a &&& b) 1) (limb (a &&& b) 2) (limb (a &&& b) 3))
      simp only [pick4] at q0 q1 q2 q3
      refine bodyPost_ret (v := wv (a &&& b)) (by simp [results, Try.results41, go_sem, q0, q1, q2, q3]) rfl ⟨rfl, ?_⟩
      exact (((hbel.setCell (by simp; omega) _).setCell (by simp; omega) _).setCell (by simp; omega) _).setCell (by simp; omega) _
set_option maxHeartbeats 1000000 in
theorem or_any (a b : Nat) (w : World) :
    Calls Try.prog 42 #[wv a, wv b] w fun e w' => e = .returned (wv (a ||| b)) ∧ Below w.heap.size w w' := by
  go_enter Try.func42, Try.ntmps42
  go_wp2
  go_loopw [6] (fun t6 wr => ∃ k : Nat, k ≤ 4 ∧ t6 = .int .i64 k ∧
      wr.rowIs w.heap.size 24 4 (u64s fun i => if i < k then limb (a ||| b) i else limb a i) ∧ wr.rowIs (w.heap.size + 1) 24 4 (u64s (limb b)) ∧ wr.rowIs (w.heap.size + 1 + 1) 24 4 (u64s fun _ => 0) ∧
      Below w.heap.size w wr)
     (fun t6 _ => 4 - (intOf t6).toNat)
  case atStart =>
    refine ⟨0, by omega, rfl, ?_, ?_, ?_, ?_⟩
    · exact (((row_lit4 _ rfl rfl rfl rfl rfl).alloc _).alloc _)
    · exact ((row_lit4 (limb b) (by simp) rfl rfl rfl rfl).alloc _)
    · exact (row_lit4 (fun _ => 0) (by simp) rfl rfl rfl rfl)
    · exact (((Below.refl _ _).alloc (Nat.le_refl _) _).alloc (by simp) _).alloc (by simp; omega) _
  case round =>
    obtain ⟨k, hk, rfl, hra, hrb, hrz, hbel⟩ := hrel
    by_cases hlt : k < 4
    · have c1 := hra.cell hlt
      have c2 := hrb.cell hlt
      have c4 := hra.frozen k
      simp only [u64s, Nat.lt_irrefl, if_false] at c1 c2
      go_wp2
      go_region
      all_goals go_wp2
      all_goals go_roundw
      case rel =>
        exact ⟨k + 1, by omega, by go_num, (row_step hra (bits_or_limb a b k)).drew, (hrb.setOther (by simp) _).drew, (hrz.setOther (by simp; omega) _).drew, (hbel.setCell (by simp) _).drew⟩
      case measure => simp [intOf]; omega
    · obtain rfl : k = 4 := by omega
      obtain ⟨c0, c1, c2, c3⟩ := row_cells4 hra
      obtain ⟨z0, z1, z2, z3⟩ := row_cells4 hrz
      have f0 := hrz.frozen
      go_wp2
      obtain ⟨q0, q1, q2, q3⟩ := row_cells4 (row_set4 hrz (limb (a ||| b) 0) (limb (a ||| b) 1) (limb (a ||| b) 2) (limb (a ||| b) 3))
      simp only [pick4] at q0 q1 q2 q3
      refine bodyPost_ret (v := wv (a ||| b)) (by simp [results, Try.results42, go_sem, q0, q1, q2, q3]) rfl ⟨rfl, ?_⟩
      exact (((hbel.setCell (by simp; omega) _).setCell (by simp; omega) _).setCell (by simp; omega) _).setCell (by simp; omega) _
set_option maxHeartbeats 1000000 in
theorem xor_any (a b : Nat) (w : World) :
    Calls Try.prog 43 #[wv a, wv b] w fun e w' => e = .returned (wv (a ^^^ b)) ∧ Below w.heap.size w w' := by
  go_enter Try.func43, Try.ntmps43
  go_wp2
  go_loopw [6] (fun t6 wr => ∃ k : Nat, k ≤ 4 ∧ t6 = .int .i64 k ∧
      wr.rowIs w.heap.size 24 4 (u64s fun i => if i < k then limb (a ^^^ b) i else limb a i) ∧ wr.rowIs (w.heap.size + 1) 24 4 (u64s (limb b)) ∧ wr.rowIs (w.heap.size + 1 + 1) 24 4 (u64s fun _ => 0) ∧
      Below w.heap.size w wr)
     (fun t6 _ => 4 - (intOf t6).toNat)
  case atStart =>
    refine ⟨0, by omega, rfl, ?_, ?_, ?_, ?_⟩
    · exact (((row_lit4 _ rfl rfl rfl rfl rfl).alloc _).alloc _)
    · exact ((row_lit4 (limb b) (by simp) rfl rfl rfl rfl).alloc _)
    · exact (row_lit4 (fun _ => 0) (by simp) rfl rfl rfl rfl)
    · exact (((Below.refl _ _).alloc (Nat.le_refl _) _).alloc (by simp) _).alloc (by simp; omega) _
  case round =>
    obtain ⟨k, hk, rfl, hra, hrb, hrz, hbel⟩ := hrel
    by_cases hlt : k < 4
    · have c1 := hra.cell hlt
      have c2 := hrb.cell hlt
      have c4 := hra.frozen k
      simp only [u64s, Nat.lt_irrefl, if_false] at c1 c2
      go_wp2
      go_region
      all_goals go_wp2
      all_goals go_roundw
      case rel =>
        exact ⟨k + 1, by omega, by go_num, (row_step hra (bits_xor_limb a b k)).drew, (hrb.setOther (by simp) _).drew, (hrz.setOther (by simp; omega) _).drew, (hbel.setCell (by simp) _).drew⟩
      case measure => simp [intOf]; omega
    · obtain rfl : k = 4 := by omega
      obtain ⟨c0, c1, c2, c3⟩ := row_cells4 hra
      obtain ⟨z0, z1, z2, z3⟩ := row_cells4 hrz
      have f0 := hrz.frozen
      go_wp2
      obtain ⟨q0, q1, q2, q3⟩ := row_cells4 (row_set4 hrz (limb (a ^^^ b) 0) (limb (a ^^^ b) 1) (limb (a ^^^ b) 2) (limb (a ^^^ b) 3))
      simp only [pick4] at q0 q1 q2 q3
      refine bodyPost_ret (v := wv (a ^^^ b)) (by simp [results, Try.results43, go_sem, q0, q1, q2, q3]) rfl ⟨rfl, ?_⟩
      exact (((hbel.setCell (by simp; omega) _).setCell (by simp; omega) _).setCell (by simp; omega) _).setCell (by simp; omega) _
theorem all_ones_xor (x : Nat) (h : x < 18446744073709551616) : 18446744073709551615 ^^^ x = 18446744073709551615 - x := by
  apply Nat.eq_of_testBit_eq; intro i
  have e : (18446744073709551615 : Nat) - x = 2 ^ 64 - (x + 1) := by omega
  rw [e, Nat.testBit_two_pow_sub_succ (by omega), Nat.testBit_xor, show (18446744073709551615 : Nat) = 2 ^ 64 - 1 from rfl, Nat.testBit_two_pow_sub_one]
  by_cases hi : i < 64
  · simp [hi]
  · have : x.testBit i = false := Nat.testBit_lt_two_pow (Nat.lt_of_lt_of_le h (by rw [pw64]; exact Nat.pow_le_pow_right (by omega) (by omega)))
    simp [hi, this]
theorem unary_not_limb (a k : Nat) (hk : k < 4) : Op.unary .xor (.int .u64 (limb a k)) = pure (.int .u64 (limb (notw a) k)) := by
  have e : (if IntKind.u64.signed then -1 else IntKind.u64.max) = (((18446744073709551615 : Nat)) : Int) := by rfl
  rw [unary_xor, e, intBits_xor, ← limb_not a k hk]
  unfold limb
  rw [bits_xor_u64_nat _ _ (by omega) (Nat.mod_lt _ (by omega)), all_ones_xor _ (Nat.mod_lt _ (by omega))]
  congr 2
  omega
set_option maxRecDepth 100000 in
set_option maxHeartbeats 1000000 in
theorem not_any (a : Nat) (w : World) :
    Calls Try.prog 44 #[wv a] w fun e w' => e = .returned (wv (notw a)) ∧ Below w.heap.size w w' := by
  go_enter Try.func44, Try.ntmps44
  go_wp2
  go_loopw [4] (fun t6 wr => ∃ k : Nat, k ≤ 4 ∧ t6 = .int .i64 k ∧
      wr.rowIs w.heap.size 24 4 (u64s fun i => if i < k then limb (notw a) i else limb a i) ∧ wr.rowIs (w.heap.size + 1) 24 4 (u64s fun _ => 0) ∧
      Below w.heap.size w wr)
     (fun t6 _ => 4 - (intOf t6).toNat)
  case atStart =>
    refine ⟨0, by omega, rfl, ?_, ?_, ?_⟩
    · exact ((row_lit4 _ rfl rfl rfl rfl rfl).alloc _)
    · exact (row_lit4 (fun _ => 0) (by simp) rfl rfl rfl rfl)
    · exact ((Below.refl _ _).alloc (Nat.le_refl _) _).alloc (by simp) _
  case round =>
    obtain ⟨k, hk, rfl, hra, hrz, hbel⟩ := hrel
    by_cases hlt : k < 4
    · have c1 := hra.cell hlt
      have c4 := hra.frozen k
      have hun := unary_not_limb a k hlt
      simp only [u64s, Nat.lt_irrefl, if_false] at c1
      go_wp2
      all_goals go_roundw
      case rel =>
        exact ⟨k + 1, by omega, by go_num, row_step hra rfl, hrz.setOther (by simp) _, hbel.setCell (by simp) _⟩
      case measure => simp [intOf]; omega
    · obtain rfl : k = 4 := by omega
      obtain ⟨c0, c1, c2, c3⟩ := row_cells4 hra
      obtain ⟨z0, z1, z2, z3⟩ := row_cells4 hrz
      have f0 := hrz.frozen
      go_wp2
      obtain ⟨q0, q1, q2, q3⟩ := row_cells4 (row_set4 hrz (limb (notw a) 0) (limb (notw a) 1) (limb (notw a) 2) (limb (notw a) 3))
      simp only [pick4] at q0 q1 q2 q3
      refine bodyPost_ret (v := wv (notw a)) (by simp [results, Try.results44, go_sem, q0, q1, q2, q3]) rfl ⟨rfl, ?_⟩
      exact (((hbel.setCell (by simp) _).setCell (by simp) _).setCell (by simp) _).setCell (by simp) _
set_option maxHeartbeats 400000 in
theorem widen_any (a0 a1 a2 a3 : Int) (w : World) :
    Calls Try.prog 60 #[.agg #[.int .u64 a0, .int .u64 a1, .int .u64 a2, .int .u64 a3]] w fun e w' => e = .returned (.agg #[.int .u64 a0, .int .u64 a1, .int .u64 a2, .int .u64 a3, .int .u64 0, .int .u64 0, .int .u64 0, .int .u64 0]) ∧ Below w.heap.size w w' := by
  go_enter Try.func60, Try.ntmps60
  go_wp2
  refine bodyPost_ret (v := .agg #[.int .u64 a0, .int .u64 a1, .int .u64 a2, .int .u64 a3, .int .u64 0, .int .u64 0, .int .u64 0, .int .u64 0]) (by simp [results, Try.results60, go_sem]) rfl ⟨rfl, ?_⟩
  exact ((Below.refl _ _).alloc (Nat.le_refl _) _).alloc (by simp) _
set_option maxHeartbeats 400000 in
theorem low_any (a0 a1 a2 a3 a4 a5 a6 a7 : Int) (w : World) :
    Calls Try.prog 57 #[.agg #[.int .u64 a0, .int .u64 a1, .int .u64 a2, .int .u64 a3, .int .u64 a4, .int .u64 a5, .int .u64 a6, .int .u64 a7]] w fun e w' => e = .returned (.agg #[.int .u64 a0, .int .u64 a1, .int .u64 a2, .int .u64 a3]) ∧ Below w.heap.size w w' := by
  go_enter Try.func57, Try.ntmps57
  go_wp2
  refine bodyPost_ret (v := .agg #[.int .u64 a0, .int .u64 a1, .int .u64 a2, .int .u64 a3]) (by simp [results, Try.results57, go_sem]) rfl ⟨rfl, ?_⟩
  exact ((Below.refl _ _).alloc (Nat.le_refl _) _).alloc (by simp) _
set_option maxHeartbeats 400000 in
theorem negative_any (a : Nat) (w : World) :
    Calls Try.prog 62 #[wv a] w fun e w' => e = .returned (.bool (neg a)) ∧ Below w.heap.size w w' := by
  have h1 := limb_lo a 3
  have h2 := limb_hi a 3
  go_enter Try.func62, Try.ntmps62
  go_wp2
  go_ret
  exact ⟨by rw [neg_limb]; rfl, (Below.refl _ _).alloc (Nat.le_refl _) _⟩
end cin
end Go.Proofs.Ytohoajjdoihekaa
