/-
  The walks of the document's answer: words as rows of bits, and rows of bits as words.
-/
import Derived.Test.YtohoajjdoihekaaRows
import Derived.Test.YtohoajjdoihekaaMem
import Derived.Test.YtohoajjdoihekaaNumB
import Derived.WalkKit
import Derived.WalkSpells
import Derived.WalkLawsBesides
import Derived.BigRegion
import Derived.Deep.RegionWith
import Derived.Deep.QuietTactic
import Derived.BigQuiet
set_option linter.unusedVariables false
set_option linter.unusedSimpArgs false
namespace Go.Proofs.Ytohoajjdoihekaa
open Go.RowKit
namespace cin
def bools (f : Nat → Bool) : Nat → Value := fun i => .bool (f i)
theorem rowb_up {w : World} {b : Nat} {t : TypeId} {n k : Nat} {f g : Nat → Bool} (h : w.rowIs b t n (bools fun i => if i < k then f i else g i)) {x : Bool} (hx : x = f k) :
    (w.setCell ⟨b, k, none⟩ (.bool x)).rowIs b t n (bools fun i => if i < k + 1 then f i else g i) := by
  subst hx
  refine (h.set k _).congr fun i _ => ?_
  simp only [bools]
  by_cases e : i = k
  · subst e; simp
  · by_cases l : i < k
    · simp [e, l, Nat.lt_succ_of_lt l]
    · simp [e, l, show ¬ i < k + 1 by omega]
theorem row_down {w : World} {b : Nat} {t : TypeId} {n k : Nat} {f g : Nat → Int} (h : w.rowIs b t n (u64s fun i => if k + 1 ≤ i then f i else g i)) {x : Int} (hx : x = f k) :
    (w.setCell ⟨b, k, none⟩ (.int .u64 x)).rowIs b t n (u64s fun i => if k ≤ i then f i else g i) := by
  subst hx
  refine (h.set k _).congr fun i _ => ?_
  simp only [u64s]
  by_cases e : i = k
  · subst e; simp
  · by_cases l : k + 1 ≤ i
    · simp [e, l, show k ≤ i by omega]
    · simp [e, l, show ¬ k ≤ i by omega]
theorem rowb_down {w : World} {b : Nat} {t : TypeId} {n k : Nat} {f g : Nat → Bool} (h : w.rowIs b t n (bools fun i => if k + 1 ≤ i then f i else g i)) {x : Bool} (hx : x = f k) :
    (w.setCell ⟨b, k, none⟩ (.bool x)).rowIs b t n (bools fun i => if k ≤ i then f i else g i) := by
  subst hx
  refine (h.set k _).congr fun i _ => ?_
  simp only [bools]
  by_cases e : i = k
  · subst e; simp
  · by_cases l : k + 1 ≤ i
    · simp [e, l, show k ≤ i by omega]
    · simp [e, l, show ¬ k ≤ i by omega]
theorem rowb_made {w : World} {t : TypeId} {n b : Nat} {f : Nat → Bool} (hb : b = w.heap.size) (h : ∀ j, j < n → f j = false) : (w.alloc (.cells (madeCells #[.bool false] n) t)).rowIs b t n (bools f) := by
  subst hb
  exact (World.rowIs_made w (.bool false) n t).congr fun j hj => by simp only [bools]; rw [h j hj]
theorem odd_bit {v : Nat} {t : Bool} (h : decide (v % 2 = 1) = t) : ((v : Int) % 2 == 1) = t := by
  rw [← h]
  have := Nat.mod_two_eq_zero_or_one v
  rcases this with e | e
  · have : (v : Int) % 2 = 0 := by omega
    rw [this, e]; rfl
  · have : (v : Int) % 2 = 1 := by omega
    rw [this, e]; rfl
theorem make_bits (n : Nat) (hn : n ≤ 281474976710656) (w : World) : (Instr.makeSlice 37 (.int .i64 (n : Int)) (.int .i64 (n : Int))).run Try.prog w = .ok (.slice (some ⟨w.heap.size, 0, none⟩) n n) (w.alloc (.cells (madeCells #[.bool false] n) 4)) :=
  run_make_row' 37 4 (.bool false) 1 (by kernel_rfl) (by kernel_rfl) rfl .i64 .i64 n (by omega) (by omega) w
set_option maxHeartbeats 1000000 in
theorem bitsOf_any (n : Nat) (w : World) :
    Calls Try.prog 22 #[wv n] w fun e w' => ∃ b, e = .returned (.slice (some ⟨b, 0, none⟩) 256 256) ∧ w.heap.size ≤ b ∧ w'.rowIs b 4 256 (bools n.testBit) ∧ Below w.heap.size w w' := by
  go_enter Try.func22, Try.ntmps22
  have hmk := make_bits 256 (by omega)
  simp only [Int.cast_ofNat_Int] at hmk
  go_wp2
  go_loopw [4] (fun t4 wr => ∃ i : Nat, i ≤ 4 ∧ t4 = .int .i64 i ∧ wr.rowIs w.heap.size 24 4 (u64s (limb n)) ∧
      wr.rowIs (w.heap.size + 1) 4 256 (bools fun j => if j < 64 * i then n.testBit j else false) ∧ Below w.heap.size w wr)
     (fun t4 _ => 4 - (intOf t4).toNat)
  case atStart =>
    refine ⟨0, by omega, rfl, ?_, ?_, ?_⟩
    · exact (row_lit4 (limb n) rfl rfl rfl rfl rfl).alloc _
    · exact rowb_made (by simp) fun j _ => by simp
    · exact bal (bal (Below.refl _ _) _) _
  case round =>
    obtain ⟨i, hi, rfl, hra, hrb, hbel⟩ := hrel
    by_cases hlt : i < 4
    · have hdi : decide ((i : Int) < 4) = true := by simp; omega
      have ca := hra.cell hlt
      simp only [u64s, limb_lb] at ca
      go_wp2
      go_loopw [5, 6] (fun t5 t6 wq => ∃ k : Nat, k ≤ 64 ∧ t6 = .int .i64 k ∧ t5 = .int .u64 ((lb n i / 2 ^ k : Nat) : Int) ∧ wq.rowIs w.heap.size 24 4 (u64s (limb n)) ∧
          wq.rowIs (w.heap.size + 1) 4 256 (bools fun j => if j < 64 * i + k then n.testBit j else false) ∧ Below w.heap.size w wq)
         (fun _ t6 _ => 64 - (intOf t6).toNat)
      case atStart => exact ⟨0, by omega, rfl, by simp, hra, hrb, hbel⟩
      case round =>
        clear hra hrb hbel ca
        obtain ⟨k, hk, rfl, rfl, hra, hrb, hbel⟩ := hrel
        by_cases hlk : k < 64
        · have hdk : decide ((k : Int) < 64) = true := by simp; omega
          have hbit := lb_testBit n i k hlk
          have hv2 : lb n i / 2 ^ k / 2 = lb n i / 2 ^ (k + 1) := div_two _ _
          have hvl : lb n i / 2 ^ k < 18446744073709551616 := Nat.lt_of_le_of_lt (Nat.div_le_self _ _) (lb_lt _ _)
          generalize lb n i / 2 ^ k = v at *
          have cb := hrb.cell (i := 64 * i + k) (by omega)
          have fb := hrb.frozen (64 * i + k)
          go_wp2
          go_roundw
          case rel => exact ⟨k + 1, by omega, by go_num, by rw [← hv2]; go_num, hra.setOther (by simp) _, rowb_up hrb (odd_bit hbit), bset hbel (by simp) _⟩
          case measure => simp [intOf]; omega
        · obtain rfl : k = 64 := by omega
          go_wp2
          go_roundw
          case rel => exact ⟨i + 1, by omega, by go_num, hra, hrb, hbel⟩
          case measure => simp [intOf]; omega
    · obtain rfl : i = 4 := by omega
      go_wp2
      refine bodyPost_ret (v := .slice (some ⟨w.heap.size + 1, 0, none⟩) 256 256) (by simp [results, Try.results22, go_sem]) rfl ⟨_, rfl, by omega, hrb.congr fun j hj => by simp only [bools]; rw [if_pos (by omega)], hbel⟩
set_option maxHeartbeats 1000000 in
theorem wordOf_any (n L b c : Nat) (hL : L ≤ 100000) (hn : Hid (∀ j, L ≤ j → n.testBit j = false)) (w : World) (hl : w.rowIs b 4 L (bools n.testBit)) :
    Calls Try.prog 16 #[.slice (some ⟨b, 0, none⟩) L c] w fun e w' => e = .returned (wv n) ∧ Below w.heap.size w w' := by
  go_enter Try.func16, Try.ntmps16
  go_wp2
  go_loopw [4] (fun t4 wr => ∃ i : Nat, i ≤ 4 ∧ t4 = .int .i64 ((i : Int) - 1) ∧ wr.rowIs w.heap.size 24 4 (u64s fun _ => 0) ∧
      wr.rowIs (w.heap.size + 1) 24 4 (u64s fun j => if i ≤ j then limb n j else 0) ∧ Below w.heap.size w wr)
     (fun t4 _ => (intOf t4 + 1).toNat)
  case atStart =>
    refine ⟨4, by omega, rfl, ?_, ?_, ?_⟩
    · exact (row_lit4 (fun _ => 0) rfl rfl rfl rfl rfl).alloc _
    · exact row_lit4 _ (by simp) rfl rfl rfl rfl
    · exact bal (bal (Below.refl _ _) _) _
  case round =>
    obtain ⟨i, hi, rfl, hrz, hrw, hbel⟩ := hrel
    by_cases hlt : i = 0
    · subst hlt
      obtain ⟨c0, c1, c2, c3⟩ := row_cells4 hrw
      obtain ⟨z0, z1, z2, z3⟩ := row_cells4 hrz
      have f0 := hrz.frozen
      go_wp2
      obtain ⟨q0, q1, q2, q3⟩ := row_cells4 (row_set4 hrz (limb n 0) (limb n 1) (limb n 2) (limb n 3))
      simp only [pick4] at q0 q1 q2 q3
      refine bodyPost_ret (v := wv n) (by simp [results, Try.results16, go_sem, q0, q1, q2, q3]) rfl ⟨rfl, ?_⟩
      exact bset (bset (bset (bset hbel (by simp) _) (by simp) _) (by simp) _) (by simp) _
    · obtain ⟨m, rfl⟩ : ∃ m, i = m + 1 := ⟨i - 1, by omega⟩
      rw [show (((m + 1 : Nat) : Int) - 1) = (m : Int) by omega]
      go_wp2
      go_loopw [5, 6] (fun t5 t6 wq => ∃ k : Nat, k ≤ 64 ∧ t6 = .int .i64 ((k : Int) - 1) ∧ t5 = .int .u64 ((lb n m / 2 ^ k : Nat) : Int) ∧ wq.rowIs w.heap.size 24 4 (u64s fun _ => 0) ∧
          wq.rowIs (w.heap.size + 1) 24 4 (u64s fun j => if m + 1 ≤ j then limb n j else 0) ∧ Below w.heap.size w wq)
         (fun _ t6 _ => (intOf t6 + 1).toNat)
      case atStart => exact ⟨64, by omega, rfl, by rw [lb_top]; rfl, hrz, hrw, hbel⟩
      case round =>
        clear hrz hrw hbel
        obtain ⟨k, hk, rfl, rfl, hrz, hrw, hbel⟩ := hrel
        by_cases hlk : k = 0
        · subst hlk
          have fw := hrw.frozen m
          have cw := hrw.cell (i := m) (by omega)
          simp only [Nat.pow_zero, Nat.div_one]
          go_wp2
          go_roundw
          case rel =>
            refine ⟨m, by omega, by go_num, hrz.setOther (by simp) _, ?_, bset hbel (by simp) _⟩
            exact row_down hrw (limb_lb n m).symm
          case measure => simp [intOf]
        · obtain ⟨q, rfl⟩ : ∃ q, k = q + 1 := ⟨k - 1, by omega⟩
          rw [show (((q + 1 : Nat) : Int) - 1) = (q : Int) by omega]
          have hst := lb_step n m q (by omega)
          have hvl : lb n m / 2 ^ (q + 1) < 9223372036854775808 := by
            have h1 := lb_lt n m
            have h2 := div_two (lb n m) q
            have h3 : lb n m / 2 ^ q ≤ lb n m := Nat.div_le_self _ _
            omega
          generalize lb n m / 2 ^ (q + 1) = v at *
          by_cases hin : 64 * m + q < L
          · have cl := (row_below hl hbel).cell hin
            simp only [bools] at cl
            generalize n.testBit (64 * m + q) = t at *
            cases t
            · replace hst : lb n m / 2 ^ q = 2 * v := hst
              go_wp2
              go_roundw
              case rel => exact ⟨q, by omega, rfl, by rw [hst]; go_num, hrz, hrw, hbel⟩
              case measure => simp [intOf]
            · replace hst : lb n m / 2 ^ q = 2 * v + 1 := hst
              go_wp2
              go_roundw
              case rel => exact ⟨q, by omega, rfl, by rw [hst]; go_num, hrz, hrw, hbel⟩
              case measure => simp [intOf]
          · have ht : n.testBit (64 * m + q) = false := hn.out _ (by omega)
            rw [ht] at hst
            replace hst : lb n m / 2 ^ q = 2 * v := hst
            go_wp2
            go_roundw
            case rel => exact ⟨q, by omega, rfl, by rw [hst]; go_num, hrz, hrw, hbel⟩
            case measure => simp [intOf]
end cin
end Go.Proofs.Ytohoajjdoihekaa
