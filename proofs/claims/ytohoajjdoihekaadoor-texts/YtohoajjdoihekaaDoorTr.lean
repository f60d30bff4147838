/-
  A word's bytes, the document's way.
-/
import Derived.Test.YtohoajjdoihekaaDoorTq
import Derived.Test.YtohoajjdoihekaaDoorTm
set_option linter.unusedVariables false
set_option linter.unusedSimpArgs false
namespace Go.Proofs.YtohoajjdoihekaaDoor
open Go.RowKit
namespace cin
def u8s (f : Nat → Nat) : Nat → Value := fun i => .int .u8 (f i : Int)
/-- byte number m of a number, the lowest first -/
def byn (n m : Nat) : Nat := n / 2 ^ (8 * m) % 256
theorem byn_lb (n i k : Nat) (hk : k < 8) : lb n i / 2 ^ (8 * k) % 256 = byn n (8 * i + k) := by
  unfold lb byn
  have e : (256 : Nat) = 2 ^ 8 := rfl
  rw [pw64, e, show 8 * (8 * i + k) = 64 * i + 8 * k by omega]
  apply Nat.eq_of_testBit_eq
  intro j
  simp only [Nat.testBit_mod_two_pow, Nat.testBit_div_two_pow]
  by_cases hj : j < 8
  · rw [decide_eq_true hj, Bool.true_and, Bool.true_and, decide_eq_true (by omega), Bool.true_and]
    congr 1; omega
  · rw [decide_eq_false hj, Bool.false_and, Bool.false_and]
theorem make_bytes (n : Nat) (hn : n ≤ 281474976710656) (w : World) : (Instr.makeSlice 32 (.int .i64 (n : Int)) (.int .i64 (n : Int))).run Tryd.prog w = .ok (.slice (some ⟨w.heap.size, 0, none⟩) n n) (w.alloc (.cells (madeCells #[.int .u8 0] n) 5)) :=
  run_make_row' 32 5 (.int .u8 0) 1 (by kernel_rfl) (by kernel_rfl) rfl .i64 .i64 n (by omega) (by omega) w
theorem row8_made {w : World} {t : TypeId} {n b : Nat} {f : Nat → Nat} (hb : b = w.heap.size) (h : ∀ j, j < n → f j = 0) : (w.alloc (.cells (madeCells #[.int .u8 0] n) t)).rowIs b t n (u8s f) := by
  subst hb
  exact (World.rowIs_made w (.int .u8 0) n t).congr fun j hj => by simp only [u8s]; rw [h j hj]; rfl
theorem row8_down {w : World} {b : Nat} {t : TypeId} {n k : Nat} {f g : Nat → Nat} (h : w.rowIs b t n (u8s fun i => if k + 1 ≤ i then f i else g i)) {x : Int} (hx : x = (f k : Int)) :
    (w.setCell ⟨b, k, none⟩ (.int .u8 x)).rowIs b t n (u8s fun i => if k ≤ i then f i else g i) := by
  subst hx
  refine (h.set k _).congr fun i _ => ?_
  simp only [u8s]
  by_cases e : i = k
  · subst e; simp
  · by_cases l : k + 1 ≤ i
    · simp [e, l, show k ≤ i by omega]
    · simp [e, l, show ¬ k ≤ i by omega]
/-- 32 bytes, the highest first -/
def by32 (n : Nat) : ByteArray := strOfNums ((List.range 32).map fun j => ((byn n (31 - j) : Nat) : Int))
set_option maxRecDepth 100000 in
set_option maxHeartbeats 4000000 in
theorem bytesOf_any (n : Nat) (w : World) : Calls Tryd.prog 21 #[wv n] w fun e w' => e = .returned (.string (by32 n)) ∧ Below w.heap.size w w' := by
  have hmk := make_bytes 32 (by omega)
  simp only [Int.cast_ofNat_Int] at hmk
  go_enter Tryd.func21, Tryd.ntmps21
  go_wp2
  go_loopw [4] (fun t4 wr => ∃ i : Nat, i ≤ 4 ∧ t4 = .int .i64 i ∧ wr.rowIs w.heap.size 58 4 (u64s (limb n)) ∧
      wr.rowIs (w.heap.size + 1) 5 32 (u8s fun j => if 32 - 8 * i ≤ j then byn n (31 - j) else 0) ∧ Below w.heap.size w wr)
     (fun t4 _ => 4 - (intOf t4).toNat)
  case atStart => exact ⟨0, by omega, rfl, (row_lit4 (limb n) rfl rfl rfl rfl rfl).alloc _, row8_made (by simp) fun j hj => by rw [if_neg (by omega)], bal (bal (Below.refl _ _) _) _⟩
  case round =>
    obtain ⟨i, hi, rfl, hra, hrb, hbel⟩ := hrel
    by_cases hlt : i < 4
    · have hdi : decide ((i : Int) < 4) = true := by simp; omega
      have ca := hra.cell hlt
      simp only [u64s, limb_lb] at ca
      go_wp2
      go_loopw [5, 6] (fun t5 t6 wq => ∃ k : Nat, k ≤ 8 ∧ t6 = .int .i64 k ∧ t5 = .int .u64 ((lb n i / 2 ^ (8 * k) : Nat) : Int) ∧ wq.rowIs w.heap.size 58 4 (u64s (limb n)) ∧
          wq.rowIs (w.heap.size + 1) 5 32 (u8s fun j => if 32 - (8 * i + k) ≤ j then byn n (31 - j) else 0) ∧ Below w.heap.size w wq)
         (fun _ t6 _ => 8 - (intOf t6).toNat)
      case atStart => exact ⟨0, by omega, rfl, by simp, hra, hrb, hbel⟩
      case round =>
        clear hra hrb hbel ca
        obtain ⟨k, hk, rfl, rfl, hra, hrb, hbel⟩ := hrel
        by_cases hlk : k < 8
        · have hdk : decide ((k : Int) < 8) = true := by simp; omega
          have hbyte := byn_lb n i k hlk
          have hv2 : lb n i / 2 ^ (8 * k) / 256 = lb n i / 2 ^ (8 * (k + 1)) := by
            have e8 : (2 : Nat) ^ (8 * (k + 1)) = 2 ^ (8 * k) * 256 := by rw [show 8 * (k + 1) = 8 * k + 8 by omega, Nat.pow_add]
            rw [Nat.div_div_eq_div_mul, e8]
          have hvl : lb n i / 2 ^ (8 * k) < 18446744073709551616 := Nat.lt_of_le_of_lt (Nat.div_le_self _ _) (lb_lt _ _)
          generalize lb n i / 2 ^ (8 * k) = v at *
          obtain ⟨q, hq⟩ : ∃ q : Nat, (31 : Int) - 8 * (i : Int) - (k : Int) = (q : Int) := ⟨31 - 8 * i - k, by omega⟩
          have hql : q < 32 := by omega
          have HQ : Hid (32 - (8 * i + k) = q + 1 ∧ 32 - (8 * i + (k + 1)) = q ∧ 31 - q = 8 * i + k) := ⟨by omega, by omega, by omega⟩
          rw [HQ.out.1] at hrb
          have cb := hrb.cell hql
          have fb := hrb.frozen q
          have HV : Hid (((v : Int) % 256) = ((byn n (31 - q) : Nat) : Int)) := by show _ = _; rw [HQ.out.2.2, ← hbyte]; omega
          have hm0 : 0 ≤ (v : Int) % 256 := by omega
          have hm1 : (v : Int) % 256 < 256 := by omega
          clear hbyte
          go_wp2
          go_roundw
          case rel =>
            refine ⟨k + 1, by omega, by go_num, by rw [← hv2]; go_num, hra.setOther (by simp) _, ?_, bset hbel (by simp) _⟩
            rw [HQ.out.2.1]
            exact row8_down (f := fun j => byn n (31 - j)) (g := fun _ => 0) hrb HV.out
          case measure => simp [intOf]; omega
        · obtain rfl : k = 8 := by omega
          go_wp2
          go_roundw
          case rel => exact ⟨i + 1, by omega, by go_num, hra, hrb, hbel⟩
          case measure => simp [intOf]; omega
    · obtain rfl : i = 4 := by omega
      have hcv := run_convert_bytes_arg (P := Tryd.prog) wr 32 5 (by kernel_rfl) (by kernel_rfl) (w.heap.size + 1) 0 32 32 ((List.range 32).map fun j => ((byn n (31 - j) : Nat) : Int)) (by simp) (fun j hj => by
        have h := hrb.cell hj
        rw [Nat.zero_add, h]
        simp only [u8s]
        rw [if_pos (by omega), List.getD_eq_getElem?_getD, List.getElem?_map, List.getElem?_range hj]
        rfl) 9 (by kernel_rfl)
      have hcv2 : (convert 32 9 (.slice (some ⟨w.heap.size + 1, 0, none⟩) 32 32)).run Tryd.prog wr = .ok (.string (by32 n)) wr := hcv
      clear hcv
      go_wp2
      go_ret
      exact ⟨rfl, hbel⟩
end cin
end Go.Proofs.YtohoajjdoihekaaDoor
