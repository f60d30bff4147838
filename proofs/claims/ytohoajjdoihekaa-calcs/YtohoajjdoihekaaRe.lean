/-
  The walk of the document's answer: the product of two words, by shifting and adding.
-/
import Derived.Test.YtohoajjdoihekaaRd
import Derived.Test.YtohoajjdoihekaaNumC
set_option linter.unusedVariables false
set_option linter.unusedSimpArgs false
namespace Go.Proofs.Ytohoajjdoihekaa
open Go.RowKit
namespace cin
theorem tb_shift (a i k : Nat) : (a * 2 ^ i).testBit (i + k) = a.testBit k := by
  rw [Nat.testBit_mul_two_pow, decide_eq_true (by omega), Bool.true_and]; congr 1; omega
theorem sh_lt (a i k : Nat) (ha : a < M) (hk : 256 ≤ k) : a * 2 ^ i < 2 ^ (i + k) := by
  rw [Nat.pow_add, Nat.mul_comm]
  refine Nat.mul_lt_mul_of_pos_left ?_ (Nat.two_pow_pos _)
  exact Nat.lt_of_lt_of_le ha (M_le_pow k hk)
theorem prod_yes (a b i : Nat) (h : b.testBit i = true) : a * (b % 2 ^ i) + a * 2 ^ i = a * (b % 2 ^ (i + 1)) := by
  rw [mod_succ2, h, if_pos rfl, Nat.mul_add]
theorem prod_no (a b i : Nat) (h : b.testBit i = false) : a * (b % 2 ^ i) = a * (b % 2 ^ (i + 1)) := by
  rw [mod_succ2, h]; simp
theorem sh_low (a i j : Nat) (h : j ≤ i) : (a * 2 ^ i) % 2 ^ j = 0 := by
  obtain ⟨d, rfl⟩ : ∃ d, i = j + d := ⟨i - j, by omega⟩
  rw [Nat.pow_add, Nat.mul_comm (2 ^ j), ← Nat.mul_assoc, Nat.mul_mod_left]
theorem cb_low (o a i j : Nat) (h : j ≤ i) : cb o (a * 2 ^ i) j = false := by
  unfold cb
  rw [sh_low a i j h]
  exact decide_eq_false (by have := Nat.mod_lt o (Nat.two_pow_pos j); omega)
theorem low_same (o a i j : Nat) (h : j < i) : (o + a * 2 ^ i).testBit j = o.testBit j := by
  rw [cb_sum, cb_low o a i j (by omega), Nat.testBit_mul_two_pow, decide_eq_false (by omega)]; simp
/-- what holds of the world throughout -/
structure PR (w : World) (a b p q r : Nat) (x : World) : Prop where
  rp : x.rowIs p 4 256 (bools a.testBit)
  rq : x.rowIs q 4 256 (bools b.testBit)
  hp : p < r
  hq : q < r
  hr : w.heap.size ≤ r
  be : Below w.heap.size w x
theorem PR.set {w : World} {a b p q r : Nat} {x : World} (h : PR w a b p q r x) (j : Nat) (v : Value) : PR w a b p q r (x.setCell ⟨r, j, none⟩ v) :=
  ⟨h.rp.setOther (by have := h.hp; simp; omega) _, h.rq.setOther (by have := h.hq; simp; omega) _, h.hp, h.hq, h.hr, bset h.be h.hr _⟩
set_option maxRecDepth 100000 in
set_option maxHeartbeats 4000000 in
theorem rproduct_any0 (a b : Nat) (ha : Hid (a < M)) (hb0 : Hid (b < M)) (w : World) : Calls Try.prog 17 #[wv a, wv b] w (RowOf w 512 (a * b)) := by
  have hmk := make_bits 512 (by omega)
  simp only [Int.cast_ofNat_Int] at hmk
  have hra := row_lit4 (w := w) (t := 24) (limb a) rfl rfl rfl rfl rfl
  have hbel := bal (bal (Below.refl _ w) (.cells #[.int .u64 (limb a 0), .int .u64 (limb a 1), .int .u64 (limb a 2), .int .u64 (limb a 3)] 24)) (.cells #[.int .u64 (limb b 0), .int .u64 (limb b 1), .int .u64 (limb b 2), .int .u64 (limb b 3)] 24)
  have hrb := row_lit4 (w := w.alloc (.cells #[.int .u64 (limb a 0), .int .u64 (limb a 1), .int .u64 (limb a 2), .int .u64 (limb a 3)] 24)) (n := w.heap.size + 1) (t := 24) (limb b) (by simp) rfl rfl rfl rfl
  clear hra
  go_enter Try.func17, Try.ntmps17
  go_wp2_with fail
  refine (bitsOf_any a _).mono ?_
  rintro e w1 ⟨p, rfl, _, hrp, hb⟩
  replace hrb := row_below hrb hb
  replace hbel := bcall hbel hb
  clear hb
  obtain ⟨c0, c1, c2, c3⟩ := row_cells4 hrb
  go_wp2_with fail
  refine (bitsOf_any b _).mono ?_
  rintro e w2 ⟨q, rfl, _, hrq, hb⟩
  replace hrp := row_below hrp hb
  replace hbel := bcall hbel hb
  clear hb c0 c1 c2 c3 hrb
  have hs : PR w a b p q w2.heap.size (w2.alloc (.cells (madeCells #[.bool false] 512) 4)) := ⟨hrp.alloc _, hrq.alloc _, hrp.lt, hrq.lt, hbel.size, bal hbel _⟩
  have hro : (w2.alloc (.cells (madeCells #[.bool false] 512) 4)).rowIs w2.heap.size 4 512 (bools (0 : Nat).testBit) := rowb_made rfl fun j _ => by simp
  clear hrp hrq hbel
  go_wp2
  generalize w2.heap.size = r at *
  go_loopw [8] (fun t8 wr => ∃ i o : Nat, i ≤ 256 ∧ t8 = .int .i64 i ∧ PR w a b p q r wr ∧ wr.rowIs r 4 512 (bools o.testBit) ∧ Hid (o = a * (b % 2 ^ i)))
     (fun t8 _ => 256 - (intOf t8).toNat)
  case atStart => exact ⟨0, 0, by omega, rfl, hs, hro, by show _ = _; rw [Nat.pow_zero, Nat.mod_one, Nat.mul_zero]⟩
  case round =>
    clear hs hro hmk
    obtain ⟨i, o, hi, rfl, hs, hro, HO⟩ := hrel
    by_cases hlt : i < 256
    · have hdi : decide ((i : Int) < 256) = true := by simp; omega
      have cq := hs.rq.cell hlt
      simp only [bools] at cq
      cases hbit : b.testBit i
      · rw [hbit] at cq
        have HB : Hid (b.testBit i = false) := hbit
        clear hbit
        go_wp2
        go_roundw
        case rel => exact ⟨i + 1, o, by omega, by go_num, hs, hro, by show _ = _; rw [HO.out, prod_no _ _ _ HB.out]⟩
        case measure => simp [intOf]; omega
      · rw [hbit] at cq
        have HB : Hid (b.testBit i = true) := hbit
        clear hbit
        obtain ⟨X, HX⟩ : ∃ X, Hid (X = a * 2 ^ i) := ⟨_, rfl⟩
        obtain ⟨z, HZ⟩ : ∃ z, Hid (z = o + X) := ⟨_, rfl⟩
        go_wp2
        go_loopw [9, 10] (fun t9 t10 wq => ∃ k : Nat, k ≤ 512 ∧ t10 = .int .i64 k ∧ t9 = .bool (cb o X (i + k)) ∧ PR w a b p q r wq ∧ wq.rowIs r 4 512 (bools fun j => if j < i + k then z.testBit j else o.testBit j))
           (fun _ t10 _ => 512 - (intOf t10).toNat)
        case atStart =>
          refine ⟨0, by omega, rfl, by rw [Nat.add_zero, HX.out, cb_low _ _ _ _ (Nat.le_refl _)], hs, hro.congr fun j _ => ?_⟩
          simp only [bools]
          by_cases h : j < i + 0
          · rw [if_pos h, HZ.out, HX.out, low_same _ _ _ _ (by omega)]
          · rw [if_neg h]
        case round =>
          clear hs hro cq
          obtain ⟨k, hk, rfl, rfl, hs, hro⟩ := hrel
          have HE : Hid (i + k + 1 = i + (k + 1)) := Nat.add_assoc i k 1
          by_cases hk2 : k < 256
          · have hdk : decide ((k : Int) < 256) = true := by simp; omega
            have cp := hs.rp.cell hk2
            have co := hro.cell (i := i + k) (by omega)
            have fo := hro.frozen (i + k)
            have hx := tb_shift a i k
            rw [← HX.out] at hx
            have hsum := cb_sum o X (i + k)
            have hnext := cb_next o X (i + k)
            rw [hx] at hsum hnext
            rw [← HZ.out] at hsum
            have HS : Hid (z.testBit (i + k) = ((o.testBit (i + k) != a.testBit k) != cb o X (i + k))) := hsum
            have HN : Hid (cb o X (i + k + 1) = ((o.testBit (i + k) && a.testBit k) || (o.testBit (i + k) && cb o X (i + k)) || (a.testBit k && cb o X (i + k)))) := hnext
            clear hsum hnext hx
            simp only [bools, Nat.lt_irrefl, if_false] at cp co
            generalize o.testBit (i + k) = u at *
            generalize a.testBit k = v at *
            generalize cb o X (i + k) = c at *
            cases u <;> cases v <;> cases c
            all_goals go_wp2
            all_goals go_roundw
            all_goals first
              | exact ⟨k + 1, by omega, by go_num, by rw [← HE.out, HN.out]; rfl, hs.set _ _, (rowb_up hro (by rw [HS.out]; rfl)).congr fun j _ => by rw [HE.out]⟩
              | (simp [intOf]; omega)
          · have hdk : decide ((k : Int) < 256) = false := by simp; omega
            cases hc : cb o X (i + k)
            · have HC : Hid (cb o X (i + k) = false) := hc
              clear hc
              go_wp2
              go_roundw
              case rel =>
                refine ⟨i + 1, z, by omega, by go_num, hs, hro.congr fun j _ => ?_, by show _ = _; rw [HZ.out, HO.out, HX.out, prod_yes _ _ _ HB.out]⟩
                simp only [bools]
                by_cases h : j < i + k
                · rw [if_pos h]
                · rw [if_neg h, HZ.out, cb_rest o X (i + k) j (by rw [HX.out]; exact sh_lt a i k ha.out (by omega)) HC.out (by omega)]
              case measure => simp [intOf]; omega
            · by_cases h5 : i + k < 512
              · have hd5 : decide (512 ≤ (i : Int) + (k : Int)) = false := by simp; omega
                have co := hro.cell (i := i + k) h5
                have fo := hro.frozen (i + k)
                have hx := tb_shift a i k
                rw [← HX.out, tb_hiM ha.out (by omega)] at hx
                have hsum := cb_sum o X (i + k)
                have hnext := cb_next o X (i + k)
                rw [hx, hc] at hsum hnext
                rw [← HZ.out] at hsum
                have HS : Hid (z.testBit (i + k) = ((o.testBit (i + k) != false) != true)) := hsum
                have HN : Hid (cb o X (i + k + 1) = ((o.testBit (i + k) && false) || (o.testBit (i + k) && true) || (false && true))) := hnext
                clear hsum hnext hx hc
                simp only [bools, Nat.lt_irrefl, if_false] at co
                generalize o.testBit (i + k) = u at *
                cases u
                all_goals go_wp2
                all_goals go_roundw
                all_goals first
                  | exact ⟨k + 1, by omega, by go_num, by rw [← HE.out, HN.out]; rfl, hs.set _ _, (rowb_up hro (by rw [HS.out]; rfl)).congr fun j _ => by rw [HE.out]⟩
                  | (simp [intOf]; omega)
              · clear hc
                have hd5 : decide (512 ≤ (i : Int) + (k : Int)) = true := by simp; omega
                go_wp2
                go_roundw
                case rel =>
                  refine ⟨i + 1, z, by omega, by go_num, hs, hro.congr fun j _ => ?_, by show _ = _; rw [HZ.out, HO.out, HX.out, prod_yes _ _ _ HB.out]⟩
                  simp only [bools]
                  rw [if_pos (by omega)]
                case measure => simp [intOf]; omega
    · obtain rfl : i = 256 := by omega
      go_wp2
      refine bodyPost_ret (v := .slice (some ⟨r, 0, none⟩) 512 512) (by simp [results, Try.results17, go_sem]) rfl ⟨_, o, ?_, rfl, hs.hr, hro, hs.be⟩
      show _ = _
      have e : b % 2 ^ 256 = b := Nat.mod_eq_of_lt hb0.out
      rw [HO.out, e]
end cin
end Go.Proofs.Ytohoajjdoihekaa
