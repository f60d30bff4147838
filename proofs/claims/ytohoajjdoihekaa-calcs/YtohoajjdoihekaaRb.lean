/-
  The walks of the document's answer: sums of rows of bits, rows turned over, small numbers.
-/
import Derived.Test.YtohoajjdoihekaaRa
import Derived.Test.YtohoajjdoihekaaWn
set_option linter.unusedVariables false
set_option linter.unusedSimpArgs false
namespace Go.Proofs.Ytohoajjdoihekaa
open Go.RowKit
namespace cin
set_option maxRecDepth 100000 in
set_option maxHeartbeats 1000000 in
theorem rsmall_any (n : Nat) (hn : n < 9223372036854775808) (w : World) : Calls Try.prog 7 #[.int .i64 (n : Int)] w (Ret w n) := by
  obtain ⟨g0, g1, g2, g3⟩ := small_limbs n (by omega)
  have G0 : Hid (limb n 0 = (n : Int)) := g0
  have G1 : Hid (limb n 1 = 0) := g1
  have G2 : Hid (limb n 2 = 0) := g2
  have G3 : Hid (limb n 3 = 0) := g3
  clear g0 g1 g2 g3
  go_enter Try.func7, Try.ntmps7
  go_wp2
  refine bodyPost_ret (v := wv n) (by unfold wv; rw [G0.out, G1.out, G2.out, G3.out]; simp [results, Try.results7, go_sem]) rfl (ret_mk rfl ?_)
  exact bal (bal (Below.refl _ _) _) _
/-- a slice of its own: L bits of the number n, from block B on -/
def RowOf (w : World) (L n : Nat) (e : Ending) (w' : World) : Prop :=
  ∃ b r : Nat, Hid (r = n) ∧ e = .returned (.slice (some ⟨b, 0, none⟩) L L) ∧ w.heap.size ≤ b ∧ w'.rowIs b 4 L (bools r.testBit) ∧ Below w.heap.size w w'
set_option maxHeartbeats 2000000 in
theorem addb_any (x y b1 b2 c1 c2 : Nat) (hx : Hid (x < 2 ^ 256)) (hy : Hid (y < 2 ^ 256)) (w : World) (h1 : w.rowIs b1 4 256 (bools x.testBit)) (h2 : w.rowIs b2 4 256 (bools y.testBit)) :
    Calls Try.prog 49 #[.slice (some ⟨b1, 0, none⟩) 256 c1, .slice (some ⟨b2, 0, none⟩) 256 c2, .int .i64 256] w (RowOf w 257 (x + y)) := by
  have hmk := make_bits 257 (by omega)
  simp only [Int.cast_ofNat_Int] at hmk
  obtain ⟨z, HZ⟩ : ∃ z, Hid (z = x + y) := ⟨_, rfl⟩
  go_enter Try.func49, Try.ntmps49
  go_wp2
  go_loopw [8, 9] (fun t8 t9 wr => ∃ i : Nat, i ≤ 256 ∧ t9 = .int .i64 i ∧ t8 = .bool (cb x y i) ∧ wr.rowIs w.heap.size 4 257 (bools fun j => if j < i then z.testBit j else false) ∧ Below w.heap.size w wr)
     (fun _ t9 _ => 256 - (intOf t9).toNat)
  case atStart => exact ⟨0, by omega, rfl, by rw [cb0], rowb_made (by simp) fun j _ => by simp, bal (Below.refl _ _) _⟩
  case round =>
    obtain ⟨i, hi, rfl, rfl, hrb, hbel⟩ := hrel
    by_cases hlt : i < 256
    · have hdi : decide ((i : Int) < 256) = true := by simp; omega
      have ca := (row_below h1 hbel).cell hlt
      have cc := (row_below h2 hbel).cell hlt
      have co := hrb.cell (i := i) (by omega)
      have fo := hrb.frozen i
      have hs := cb_sum x y i
      have hn := cb_next x y i
      rw [← HZ.out] at hs
      have HS : Hid (z.testBit i = ((x.testBit i != y.testBit i) != cb x y i)) := hs
      have HN : Hid (cb x y (i + 1) = ((x.testBit i && y.testBit i) || (x.testBit i && cb x y i) || (y.testBit i && cb x y i))) := hn
      clear hs hn
      simp only [bools] at ca cc co
      generalize x.testBit i = p at *
      generalize y.testBit i = q at *
      generalize cb x y i = c at *
      cases p <;> cases q <;> cases c
      all_goals go_wp2
      all_goals go_roundw
      all_goals first
        | exact ⟨i + 1, by omega, by go_num, by rw [HN.out]; rfl, rowb_up hrb (by rw [HS.out]; rfl), bset hbel (by simp) _⟩
        | (simp [intOf]; omega)
    · obtain rfl : i = 256 := by omega
      have fo := hrb.frozen 256
      have co := hrb.cell (i := 256) (by omega)
      go_wp2
      refine bodyPost_ret (v := .slice (some ⟨w.heap.size, 0, none⟩) 257 257) (by simp [results, Try.results49, go_sem]) rfl ⟨_, z, HZ, rfl, Nat.le_refl _, ?_, bset hbel (by simp) _⟩
      refine (rowb_up hrb (show cb x y 256 = z.testBit 256 by rw [HZ.out]; exact cb_top _ _ _ hx.out hy.out)).congr fun j hj => ?_
      simp only [bools]; rw [if_pos (by omega)]
set_option maxHeartbeats 2000000 in
theorem notb_any (x b1 c1 : Nat) (w : World) (h1 : w.rowIs b1 4 256 (bools x.testBit)) :
    Calls Try.prog 67 #[.slice (some ⟨b1, 0, none⟩) 256 c1] w fun e w' => ∃ b : Nat, e = .returned (.slice (some ⟨b, 0, none⟩) 256 256) ∧ w.heap.size ≤ b ∧ w'.rowIs b 4 256 (bools fun j => !x.testBit j) ∧ Below w.heap.size w w' := by
  have hmk := make_bits 256 (by omega)
  simp only [Int.cast_ofNat_Int] at hmk
  go_enter Try.func67, Try.ntmps67
  go_wp2
  go_loopw [4] (fun t4 wr => ∃ i : Nat, i ≤ 256 ∧ t4 = .int .i64 i ∧ wr.rowIs w.heap.size 4 256 (bools fun j => if j < i then !x.testBit j else false) ∧ Below w.heap.size w wr)
     (fun t4 _ => 256 - (intOf t4).toNat)
  case atStart => exact ⟨0, by omega, rfl, rowb_made (by simp) fun j _ => by simp, bal (Below.refl _ _) _⟩
  case round =>
    obtain ⟨i, hi, rfl, hrb, hbel⟩ := hrel
    by_cases hlt : i < 256
    · have hdi : decide ((i : Int) < 256) = true := by simp; omega
      have ca := (row_below h1 hbel).cell hlt
      have co := hrb.cell (i := i) (by omega)
      have fo := hrb.frozen i
      simp only [bools] at ca co
      go_wp2
      go_roundw
      case rel => exact ⟨i + 1, by omega, by go_num, rowb_up (f := fun j => !x.testBit j) hrb rfl, bset hbel (by simp) _⟩
      case measure => simp [intOf]; omega
    · obtain rfl : i = 256 := by omega
      go_wp2
      refine bodyPost_ret (v := .slice (some ⟨w.heap.size, 0, none⟩) 256 256) (by simp [results, Try.results67, go_sem]) rfl ⟨_, rfl, Nat.le_refl _, ?_, hbel⟩
      exact hrb.congr fun j hj => by simp only [bools]; rw [if_pos hj]
end cin
end Go.Proofs.Ytohoajjdoihekaa
