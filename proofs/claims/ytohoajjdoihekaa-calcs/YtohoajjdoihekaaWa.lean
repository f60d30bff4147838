/-
  The walks of package word's functions on limbs: sums and differences.
-/
import Derived.Test.YtohoajjdoihekaaRows
import Derived.Test.YtohoajjdoihekaaMem
import Derived.WalkKit
import Derived.WalkSpells
import Derived.WalkLawsBesides
import Derived.BigRegion
import Derived.Deep.RegionWith
import Derived.Deep.QuietTactic
import Derived.BigQuiet
import Derived.Shelf.Spec.BitsCarry
set_option linter.unusedVariables false
set_option linter.unusedSimpArgs false
namespace Go.Proofs.Ytohoajjdoihekaa
open Go.RowKit
namespace cin
theorem call_add64 (x y c : Int) (hx : 0 ≤ x) (hy : 0 ≤ y) (hc0 : 0 ≤ c) (hc : c ≤ 1) (w : World) :
    (callFunc 68 #[.int .u64 x, .int .u64 y, .int .u64 c]).run Try.prog w =
      .ok (.value (.tuple #[.int .u64 ((x + y + c) % 18446744073709551616), .int .u64 ((x + y + c) / 18446744073709551616)])) w := by
  rw [run_callFunc_extern Try.func68 (by kernel_rfl) (by kernel_rfl) (by kernel_rfl) (e := add64Entry) (by kernel_rfl), run_add64 x y c hx hy hc0 hc]
  rfl
theorem call_add_k (a b k : Nat) (hk : k < 4) (w : World) : (callFunc 68 #[.int .u64 (limb a k), .int .u64 (limb b k), .int .u64 (cy a b k)]).run Try.prog w = .ok (.value (.tuple #[.int .u64 (limb (a + b) k), .int .u64 (cy a b (k + 1) : Int)])) w := by
  have h := cy_le a b k
  rw [call_add64 _ _ _ (limb_lo _ _) (limb_lo _ _) (by omega) (by omega), add_limb a b k hk, add_cy a b k hk]

theorem call_sub64 (x y b : Nat) (hb : b ≤ 1) (w : World) :
    (callFunc 70 #[.int .u64 x, .int .u64 y, .int .u64 b]).run Try.prog w =
      .ok (.value (.tuple #[.int .u64 (((x + 18446744073709551616 - y - b) % 18446744073709551616 : Nat) : Int), .int .u64 ((if x < y + b then 1 else 0 : Nat) : Int)])) w := by
  rw [run_callFunc_extern Try.func70 (by kernel_rfl) (by kernel_rfl) (by kernel_rfl) (e := sub64Entry) (by kernel_rfl), run_sub64 x y b hb]
  rfl
theorem call_sub_k (a b k : Nat) (hk : k < 4) (w : World) : (callFunc 70 #[.int .u64 (limb a k), .int .u64 (limb b k), .int .u64 (bw a b k)]).run Try.prog w = .ok (.value (.tuple #[.int .u64 (limb (subw a b) k), .int .u64 (bw a b (k + 1) : Int)])) w := by
  have h := bw_le a b k
  have e := sub_limb a b k hk
  have e2 := sub_bw a b k hk
  unfold limb at e e2 ⊢
  have c := call_sub64 (a / 2 ^ (64 * k) % 18446744073709551616) (b / 2 ^ (64 * k) % 18446744073709551616) (bw a b k) h w
  rw [c]
  generalize a / 2 ^ (64 * k) % 18446744073709551616 = x at *
  have hy : b / 2 ^ (64 * k) % 18446744073709551616 < 18446744073709551616 := Nat.mod_lt _ (by omega)
  generalize b / 2 ^ (64 * k) % 18446744073709551616 = y at *
  have e3 : ((x + 18446744073709551616 - y - bw a b k : Nat) : Int) = (x : Int) + 18446744073709551616 - y - bw a b k := by omega
  have e4 : (((x + 18446744073709551616 - y - bw a b k) % 18446744073709551616 : Nat) : Int) = ((subw a b / 2 ^ (64 * k) % 18446744073709551616 : Nat) : Int) := by rw [← e, Int.natCast_emod, e3]; rfl
  have e5 : ((if x < y + bw a b k then 1 else 0 : Nat) : Int) = (bw a b (k + 1) : Int) := by rw [← e2]; split <;> split <;> omega
  rw [e4, e5]
set_option maxHeartbeats 1000000 in
theorem carryAdd_any (a b : Nat) (w : World) :
    Calls Try.prog 55 #[wv a, wv b] w fun e w' => e = .returned (.tuple #[wv (a + b), .int .u64 (cy a b 4 : Int)]) ∧ Below w.heap.size w w' := by
  go_enter Try.func55, Try.ntmps55
  go_wp2
  go_loopw [7, 9] (fun t7 t9 wr => ∃ k : Nat, k ≤ 4 ∧ t9 = .int .i64 k ∧ t7 = .int .u64 (cy a b k : Int) ∧
      wr.rowIs w.heap.size 24 4 (u64s (limb a)) ∧ wr.rowIs (w.heap.size + 1) 24 4 (u64s (limb b)) ∧ wr.rowIs (w.heap.size + 1 + 1) 24 4 (u64s fun _ => 0) ∧
      wr.rowIs (w.heap.size + 1 + 1 + 1) 24 4 (u64s fun i => if i < k then limb (a + b) i else 0) ∧ Below w.heap.size w wr)
     (fun _ t9 _ => 4 - (intOf t9).toNat)
  case atStart => 
    refine ⟨0, by omega, rfl, by simp [cy], ?_, ?_, ?_, ?_, ?_⟩
    · exact ((((row_lit4 (limb a) rfl rfl rfl rfl rfl).alloc _).alloc _).alloc _)
    · exact (((row_lit4 (limb b) (by simp) rfl rfl rfl rfl).alloc _).alloc _)
    · exact (((row_lit4 (fun _ => 0) (by simp) rfl rfl rfl rfl)).alloc _)
    · exact (row_lit4 _ (by simp) rfl rfl rfl rfl)
    · exact ((((Below.refl _ _).alloc (Nat.le_refl _) _).alloc (by simp) _).alloc (by simp; omega) _).alloc (by simp; omega) _
  case round =>
    obtain ⟨k, hk, rfl, rfl, hra, hrb, hrz, hrs, hbel⟩ := hrel
    by_cases hlt : k < 4
    · have c1 := hra.cell hlt
      have c2 := hrb.cell hlt
      have c3 := hrs.cell hlt
      have c4 := hrs.frozen k
      have hcall := call_add_k a b k hlt
      simp only [u64s] at c1 c2 c3
      go_wp2
      go_region_with (simp only [hcall])
      all_goals go_wp2
      all_goals go_roundw
      case rel | rel =>
        exact ⟨k + 1, by omega, by go_num, rfl, (hra.setOther (by simp; omega) _).drew, (hrb.setOther (by simp) _).drew, (hrz.setOther (by simp) _).drew, (row_step hrs rfl).drew, (hbel.setCell (by simp; omega) _).drew⟩
      case measure | measure => simp [intOf]; omega
    · obtain rfl : k = 4 := by omega
      obtain ⟨c0, c1, c2, c3⟩ := row_cells4 hrs
      obtain ⟨z0, z1, z2, z3⟩ := row_cells4 hrz
      have f0 := hrz.frozen
      go_wp2
      obtain ⟨q0, q1, q2, q3⟩ := row_cells4 (row_set4 hrz (limb (a + b) 0) (limb (a + b) 1) (limb (a + b) 2) (limb (a + b) 3))
      simp only [pick4] at q0 q1 q2 q3
      refine bodyPost_ret (v := .tuple #[wv (a + b), .int .u64 (cy a b 4 : Int)]) (by simp [results, Try.results55, go_sem, q0, q1, q2, q3]) rfl ⟨rfl, ?_⟩
      exact (((hbel.setCell (by simp; omega) _).setCell (by simp; omega) _).setCell (by simp; omega) _).setCell (by simp; omega) _
set_option maxHeartbeats 1000000 in
theorem borrowSub_any (a b : Nat) (w : World) :
    Calls Try.prog 58 #[wv a, wv b] w fun e w' => e = .returned (.tuple #[wv (subw a b), .int .u64 (bw a b 4 : Int)]) ∧ Below w.heap.size w w' := by
  go_enter Try.func58, Try.ntmps58
  go_wp2
  go_loopw [7, 9] (fun t7 t9 wr => ∃ k : Nat, k ≤ 4 ∧ t9 = .int .i64 k ∧ t7 = .int .u64 (bw a b k : Int) ∧
      wr.rowIs w.heap.size 24 4 (u64s (limb a)) ∧ wr.rowIs (w.heap.size + 1) 24 4 (u64s (limb b)) ∧ wr.rowIs (w.heap.size + 1 + 1) 24 4 (u64s fun _ => 0) ∧
      wr.rowIs (w.heap.size + 1 + 1 + 1) 24 4 (u64s fun i => if i < k then limb (subw a b) i else 0) ∧ Below w.heap.size w wr)
     (fun _ t9 _ => 4 - (intOf t9).toNat)
  case atStart => 
    refine ⟨0, by omega, rfl, by simp [bw, Nat.mod_one], ?_, ?_, ?_, ?_, ?_⟩
    · exact ((((row_lit4 (limb a) rfl rfl rfl rfl rfl).alloc _).alloc _).alloc _)
    · exact (((row_lit4 (limb b) (by simp) rfl rfl rfl rfl).alloc _).alloc _)
    · exact (((row_lit4 (fun _ => 0) (by simp) rfl rfl rfl rfl)).alloc _)
    · exact (row_lit4 _ (by simp) rfl rfl rfl rfl)
    · exact ((((Below.refl _ _).alloc (Nat.le_refl _) _).alloc (by simp) _).alloc (by simp; omega) _).alloc (by simp; omega) _
  case round =>
    obtain ⟨k, hk, rfl, rfl, hra, hrb, hrz, hrs, hbel⟩ := hrel
    by_cases hlt : k < 4
    · have c1 := hra.cell hlt
      have c2 := hrb.cell hlt
      have c3 := hrs.cell hlt
      have c4 := hrs.frozen k
      have hcall := call_sub_k a b k hlt
      simp only [u64s] at c1 c2 c3
      go_wp2
      go_region_with (simp only [hcall])
      all_goals go_wp2
      all_goals go_roundw
      case rel | rel =>
        exact ⟨k + 1, by omega, by go_num, rfl, (hra.setOther (by simp; omega) _).drew, (hrb.setOther (by simp) _).drew, (hrz.setOther (by simp) _).drew, (row_step hrs rfl).drew, (hbel.setCell (by simp; omega) _).drew⟩
      case measure | measure => simp [intOf]; omega
    · obtain rfl : k = 4 := by omega
      obtain ⟨c0, c1, c2, c3⟩ := row_cells4 hrs
      obtain ⟨z0, z1, z2, z3⟩ := row_cells4 hrz
      have f0 := hrz.frozen
      go_wp2
      obtain ⟨q0, q1, q2, q3⟩ := row_cells4 (row_set4 hrz (limb (subw a b) 0) (limb (subw a b) 1) (limb (subw a b) 2) (limb (subw a b) 3))
      simp only [pick4] at q0 q1 q2 q3
      refine bodyPost_ret (v := .tuple #[wv (subw a b), .int .u64 (bw a b 4 : Int)]) (by simp [results, Try.results58, go_sem, q0, q1, q2, q3]) rfl ⟨rfl, ?_⟩
      exact (((hbel.setCell (by simp; omega) _).setCell (by simp; omega) _).setCell (by simp; omega) _).setCell (by simp; omega) _
end cin
end Go.Proofs.Ytohoajjdoihekaa
