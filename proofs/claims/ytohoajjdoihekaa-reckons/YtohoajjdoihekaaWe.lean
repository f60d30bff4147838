/-
  The walks of package word's comparisons and shifts.
-/
import Derived.Test.YtohoajjdoihekaaWa
import Derived.Test.YtohoajjdoihekaaNum3
set_option linter.unusedVariables false
set_option linter.unusedSimpArgs false
namespace Go.Proofs.Ytohoajjdoihekaa
open Go.RowKit
namespace cin
set_option maxHeartbeats 1000000 in
theorem less_any (a b : Nat) (w : World) :
    Calls Try.prog 39 #[wv a, wv b] w fun e w' => e = .returned (.bool (ltw a b)) ∧ Below w.heap.size w w' := by
  go_enter Try.func39, Try.ntmps39
  go_wp2_with fail
  refine (borrowSub_any a b _).mono ?_
  rintro e w' ⟨rfl, hb⟩
  go_wp2
  go_ret
  exact ⟨by rw [← ltw_bw]; rfl, bal (bcall (bal (bal (Below.refl _ _) _) _) hb) _⟩
set_option maxHeartbeats 1000000 in
theorem below_any (a b : Nat) (hb : b < 18446744073709551616) (w : World) :
    Calls Try.prog 66 #[wv a, .int .u64 (b : Int)] w fun e w' => e = .returned (.bool (ltw a b)) ∧ Below w.heap.size w w' := by
  go_enter Try.func66, Try.ntmps66
  go_wp2_with fail
  rw [wv_small b hb]
  refine (less_any a b _).mono ?_
  rintro e w' ⟨rfl, hb⟩
  go_wp2
  go_ret
  exact ⟨rfl, bcall (bal (Below.refl _ _) _) hb⟩
theorem rowIs_drewN {w : World} {b : Nat} {t : TypeId} {n : Nat} {f : Nat → Value} (h : w.rowIs b t n f) (k : Nat) : (w.drewN k).rowIs b t n f := h
theorem below_drewN' {B : Nat} {a w : World} (h : Below B a w) (k : Nat) : Below B a (w.drewN k) := ⟨h.os, h.tape, h.output, h.size, h.block⟩
/-- one limb more, laid by two stores -/
theorem row_step2 {w : World} {b : Nat} {t : TypeId} {n k : Nat} {f g : Nat → Int} (h : w.rowIs b t n (u64s fun i => if i < k then f i else g i)) {u : Value} {x : Int} (hx : x = f k) :
    ((w.setCell ⟨b, k, none⟩ u).setCell ⟨b, k, none⟩ (.int .u64 x)).rowIs b t n (u64s fun i => if i < k + 1 then f i else g i) := by
  subst hx
  refine ((h.set k u).set k _).congr fun i _ => ?_
  simp only [u64s]
  by_cases e : i = k
  · subst e; simp
  · by_cases l : i < k
    · simp [e, l, Nat.lt_succ_of_lt l]
    · simp [e, l, show ¬ i < k + 1 by omega]
set_option maxRecDepth 100000 in
set_option maxHeartbeats 1000000 in
theorem shl_any (a b : Nat) (w : World) :
    Calls Try.prog 46 #[wv a, wv b] w fun e w' => e = .returned (wv (shlw a b)) ∧ Below w.heap.size w w' := by
  cases hc : ltw a 256
  · have hs : shlw a b = 0 := shlw_out hc b
    rw [hs]
    have HC : Hid (ltw a 256 = false) := hc
    clear hs hc
    go_enter Try.func46, Try.ntmps46
    go_wp2_with fail
    refine (below_any a 256 (by omega) _).mono ?_
    rintro e w' ⟨rfl, hb⟩
    rw [HC.out]
    have hrm := row_below (row_lit4 (n := w.heap.size + 1 + 1 + 1) (fun _ => 0) (by simp) rfl rfl rfl rfl) hb
    have hrz := row_below (row_lit4 (n := w.heap.size + 1 + 1) (fun _ => 0) (by simp) rfl rfl rfl rfl |>.alloc _) hb
    have hbel := bcall (bal (bal (bal (bal (Below.refl _ _) _) _) _) _) hb
    clear hb
    obtain ⟨r0, r1, r2, r3⟩ := row_cells4 hrm
    obtain ⟨z0, z1, z2, z3⟩ := row_cells4 hrz
    have f0 := hrz.frozen
    go_wp2
    obtain ⟨q0, q1, q2, q3⟩ := row_cells4 (row_set4 hrz 0 0 0 0)
    simp only [pick4] at q0 q1 q2 q3
    refine bodyPost_ret (v := wv 0) (by simp [results, Try.results46, go_sem, q0, q1, q2, q3, limb_zero]) rfl ⟨rfl, ?_⟩
    exact (((hbel.setCell (by simp; omega) _).setCell (by simp; omega) _).setCell (by simp; omega) _).setCell (by simp; omega) _
  · obtain ⟨s, hs, hs0, hs1⟩ := shlw_in hc b
    rw [hs1]
    have HC : Hid (ltw a 256 = true) := hc
    have H0 : Hid (limb a 0 = (s : Int)) := hs0
    clear hs1 hc hs0
    go_enter Try.func46, Try.ntmps46
    go_wp2_with fail
    refine (below_any a 256 (by omega) _).mono ?_
    rintro e w' ⟨rfl, hb⟩
    rw [HC.out]
    have hra := row_below (row_lit4 (n := w.heap.size) (limb a) rfl rfl rfl rfl rfl |>.alloc _ |>.alloc _ |>.alloc _) hb
    have hrb := row_below (row_lit4 (n := w.heap.size + 1) (limb b) (by simp) rfl rfl rfl rfl |>.alloc _ |>.alloc _) hb
    have hrm := row_below (row_lit4 (n := w.heap.size + 1 + 1 + 1) (fun _ => 0) (by simp) rfl rfl rfl rfl) hb
    have hrz := row_below (row_lit4 (n := w.heap.size + 1 + 1) (fun _ => 0) (by simp) rfl rfl rfl rfl |>.alloc _) hb
    have hbel := bcall (bal (bal (bal (bal (Below.refl _ _) _) _) _) _) hb
    clear hb
    have ca := hra.cell (i := 0) (by omega)
    simp only [u64s] at ca
    rw [H0.out] at ca
    go_wp2
    go_quiet (fail)
    go_wp2
    go_loopw [8] (fun t8 wr => ∃ k : Nat, s / 64 ≤ k ∧ k ≤ 4 ∧ t8 = .int .i64 k ∧ wr.rowIs (w.heap.size + 1) 24 4 (u64s (limb b)) ∧ wr.rowIs (w.heap.size + 1 + 1) 24 4 (u64s fun _ => 0) ∧
      wr.rowIs (w.heap.size + 1 + 1 + 1) 24 4 (u64s fun i => if i < k then limb (b * 2 ^ s) i else 0) ∧ Below w.heap.size w wr)
     (fun t8 _ => 4 - (intOf t8).toNat)
    case atStart =>
      refine ⟨s / 64, by omega, by omega, by go_num, rowIs_drewN hrb _, rowIs_drewN hrz _, rowIs_drewN (hrm.congr fun i hi => ?_) _, below_drewN' hbel _⟩
      simp only [u64s]
      by_cases hl : i < s / 64
      · rw [if_pos hl, shl_lo b s i hl]
      · rw [if_neg hl]
    case round =>
      clear hra hrb hrm hrz hbel ca
      obtain ⟨k, hk1, hk2, rfl, hrb, hrz, hrm, hbel⟩ := hrel
      by_cases hlt : k < 4
      · have cb := hrb.cell (i := k - s / 64) (by omega)
        have cm := hrm.cell (i := k) (by omega)
        have fm := hrm.frozen k
        simp only [u64s, Nat.lt_irrefl, if_false] at cb cm
        by_cases hgt : s / 64 < k
        · have cb1 := hrb.cell (i := k - s / 64 - 1) (by omega)
          simp only [u64s] at cb1
          have hrm2 := hrm.set k (.int .u64 (IntKind.u64.wrap (limb b (k - s / 64) * 2 ^ (s % 64))))
          have cm2 := hrm2.cell (i := k) hlt
          simp only [if_true] at cm2
          go_wp2
          go_region
          go_wp2
          go_roundw
          case rel =>
            refine ⟨k + 1, by omega, by omega, by go_num, ((hrb.setOther (by simp) _).setOther (by simp) _).drew, ((hrz.setOther (by simp) _).setOther (by simp) _).drew, ?_, ((hbel.setCell (by simp; omega) _).setCell (by simp; omega) _).drew⟩
            exact (row_step2 hrm (shl_hi' b s k hgt)).drew
          case measure => simp [intOf]; omega
        · go_wp2
          go_roundw
          case rel =>
            refine ⟨k + 1, by omega, by omega, by go_num, hrb.setOther (by simp) _, hrz.setOther (by simp) _, ?_, hbel.setCell (by simp; omega) _⟩
            exact row_step hrm (shl_eq' b s k hk1 hgt)
          case measure => simp [intOf]; omega
      · obtain rfl : k = 4 := by omega
        obtain ⟨c0, c1, c2, c3⟩ := row_cells4 hrm
        obtain ⟨z0, z1, z2, z3⟩ := row_cells4 hrz
        have f0 := hrz.frozen
        go_wp2
        obtain ⟨q0, q1, q2, q3⟩ := row_cells4 (row_set4 hrz (limb (b * 2 ^ s) 0) (limb (b * 2 ^ s) 1) (limb (b * 2 ^ s) 2) (limb (b * 2 ^ s) 3))
        simp only [pick4] at q0 q1 q2 q3
        refine bodyPost_ret (v := wv (b * 2 ^ s)) (by simp [results, Try.results46, go_sem, q0, q1, q2, q3]) rfl ⟨rfl, ?_⟩
        exact (((hbel.setCell (by simp; omega) _).setCell (by simp; omega) _).setCell (by simp; omega) _).setCell (by simp; omega) _
set_option maxRecDepth 100000 in
set_option maxHeartbeats 1000000 in
theorem shr_any (a b : Nat) (hbM : b < M) (w : World) :
    Calls Try.prog 47 #[wv a, wv b] w fun e w' => e = .returned (wv (shrw a b)) ∧ Below w.heap.size w w' := by
  cases hc : ltw a 256
  · have hs : shrw a b = 0 := shrw_out hc b
    rw [hs]
    have HC : Hid (ltw a 256 = false) := hc
    clear hs hc
    go_enter Try.func47, Try.ntmps47
    go_wp2_with fail
    refine (below_any a 256 (by omega) _).mono ?_
    rintro e w' ⟨rfl, hb⟩
    rw [HC.out]
    have hrm := row_below (row_lit4 (n := w.heap.size + 1 + 1 + 1) (fun _ => 0) (by simp) rfl rfl rfl rfl) hb
    have hrz := row_below (row_lit4 (n := w.heap.size + 1 + 1) (fun _ => 0) (by simp) rfl rfl rfl rfl |>.alloc _) hb
    have hbel := bcall (bal (bal (bal (bal (Below.refl _ _) _) _) _) _) hb
    clear hb
    obtain ⟨r0, r1, r2, r3⟩ := row_cells4 hrm
    obtain ⟨z0, z1, z2, z3⟩ := row_cells4 hrz
    have f0 := hrz.frozen
    go_wp2
    obtain ⟨q0, q1, q2, q3⟩ := row_cells4 (row_set4 hrz 0 0 0 0)
    simp only [pick4] at q0 q1 q2 q3
    refine bodyPost_ret (v := wv 0) (by simp [results, Try.results47, go_sem, q0, q1, q2, q3, limb_zero]) rfl ⟨rfl, ?_⟩
    exact (((hbel.setCell (by simp; omega) _).setCell (by simp; omega) _).setCell (by simp; omega) _).setCell (by simp; omega) _
  · obtain ⟨s, hs, hs0, hs1⟩ := shrw_in hc b
    rw [hs1]
    have HC : Hid (ltw a 256 = true) := hc
    have HB : Hid (b < M) := hbM
    clear hbM
    have H0 : Hid (limb a 0 = (s : Int)) := hs0
    clear hs1 hc hs0
    go_enter Try.func47, Try.ntmps47
    go_wp2_with fail
    refine (below_any a 256 (by omega) _).mono ?_
    rintro e w' ⟨rfl, hb⟩
    rw [HC.out]
    have hra := row_below (row_lit4 (n := w.heap.size) (limb a) rfl rfl rfl rfl rfl |>.alloc _ |>.alloc _ |>.alloc _) hb
    have hrb := row_below (row_lit4 (n := w.heap.size + 1) (limb b) (by simp) rfl rfl rfl rfl |>.alloc _ |>.alloc _) hb
    have hrm := row_below (row_lit4 (n := w.heap.size + 1 + 1 + 1) (fun _ => 0) (by simp) rfl rfl rfl rfl) hb
    have hrz := row_below (row_lit4 (n := w.heap.size + 1 + 1) (fun _ => 0) (by simp) rfl rfl rfl rfl |>.alloc _) hb
    have hbel := bcall (bal (bal (bal (bal (Below.refl _ _) _) _) _) _) hb
    clear hb
    have ca := hra.cell (i := 0) (by omega)
    simp only [u64s] at ca
    rw [H0.out] at ca
    go_wp2
    go_quiet (fail)
    go_wp2
    go_loopw [8] (fun t8 wr => ∃ k : Nat, s / 64 ≤ k ∧ k ≤ 4 ∧ t8 = .int .i64 k ∧ wr.rowIs (w.heap.size + 1) 24 4 (u64s (limb b)) ∧ wr.rowIs (w.heap.size + 1 + 1) 24 4 (u64s fun _ => 0) ∧
      wr.rowIs (w.heap.size + 1 + 1 + 1) 24 4 (u64s fun i => if i < k - s / 64 then limb (b / 2 ^ s) i else 0) ∧ Below w.heap.size w wr)
     (fun t8 _ => 4 - (intOf t8).toNat)
    case atStart =>
      refine ⟨s / 64, by omega, by omega, by go_num, rowIs_drewN hrb _, rowIs_drewN hrz _, rowIs_drewN (hrm.congr fun i hi => ?_) _, below_drewN' hbel _⟩
      simp only [u64s]
      rw [if_neg (by omega)]
    case round =>
      clear hra hrb hrm hrz hbel ca
      obtain ⟨k, hk1, hk2, rfl, hrb, hrz, hrm, hbel⟩ := hrel
      by_cases hlt : k < 4
      · have cb := hrb.cell (i := k) (by omega)
        have cm := hrm.cell (i := k - s / 64) (by omega)
        have fm := hrm.frozen (k - s / 64)
        simp only [u64s, Nat.lt_irrefl, if_false] at cb cm
        by_cases hgt : k + 1 < 4
        · have cb1 := hrb.cell (i := k + 1) (by omega)
          simp only [u64s] at cb1
          have hrm2 := hrm.set (k - s / 64) (.int .u64 (limb b k / 2 ^ (s % 64)))
          have cm2 := hrm2.cell (i := k - s / 64) (by omega)
          simp only [if_true] at cm2
          go_wp2
          go_region
          go_wp2
          go_roundw
          case rel =>
            refine ⟨k + 1, by omega, by omega, by go_num, ((hrb.setOther (by simp) _).setOther (by simp) _).drew, ((hrz.setOther (by simp) _).setOther (by simp) _).drew, ?_, ((hbel.setCell (by simp; omega) _).setCell (by simp; omega) _).drew⟩
            rw [show k + 1 - s / 64 = k - s / 64 + 1 by omega]
            exact (row_step2 hrm (shr_hi' b s k hk1)).drew
          case measure => simp [intOf]; omega
        · go_wp2
          go_roundw
          case rel =>
            refine ⟨k + 1, by omega, by omega, by go_num, hrb.setOther (by simp) _, hrz.setOther (by simp) _, ?_, hbel.setCell (by simp; omega) _⟩
            rw [show k + 1 - s / 64 = k - s / 64 + 1 by omega]
            exact row_step hrm (shr_top' b s k HB.out hk1 (by omega))
          case measure => simp [intOf]; omega
      · obtain rfl : k = 4 := by omega
        have hrm := hrm.congr (g := u64s (limb (b / 2 ^ s))) fun i hi => by
          simp only [u64s]
          by_cases hl : i < 4 - s / 64
          · rw [if_pos hl]
          · rw [if_neg hl, shr_out b s i HB.out (by omega)]
        obtain ⟨c0, c1, c2, c3⟩ := row_cells4 hrm
        obtain ⟨z0, z1, z2, z3⟩ := row_cells4 hrz
        have f0 := hrz.frozen
        go_wp2
        obtain ⟨q0, q1, q2, q3⟩ := row_cells4 (row_set4 hrz (limb (b / 2 ^ s) 0) (limb (b / 2 ^ s) 1) (limb (b / 2 ^ s) 2) (limb (b / 2 ^ s) 3))
        simp only [pick4] at q0 q1 q2 q3
        refine bodyPost_ret (v := wv (b / 2 ^ s)) (by simp [results, Try.results47, go_sem, q0, q1, q2, q3]) rfl ⟨rfl, ?_⟩
        exact (((hbel.setCell (by simp; omega) _).setCell (by simp; omega) _).setCell (by simp; omega) _).setCell (by simp; omega) _
end cin
end Go.Proofs.Ytohoajjdoihekaa
