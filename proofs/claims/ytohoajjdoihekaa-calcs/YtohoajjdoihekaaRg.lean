/-
  The walks of the document's answer: powers, shifted bits.
-/
import Derived.Test.YtohoajjdoihekaaRf
set_option linter.unusedVariables false
set_option linter.unusedSimpArgs false
namespace Go.Proofs.Ytohoajjdoihekaa
open Go.RowKit
namespace cin
theorem hi_prod (n a b : Nat) (ha : a < 2 ^ n) (hb : b < 2 ^ n) (j : Nat) (hj : n + n ≤ j) : (a * b).testBit j = false := by
  refine tb_high (L := n + n) ?_ hj
  rw [Nat.pow_add]
  exact Nat.mul_lt_mul'' ha hb
theorem hi512 {r a b : Nat} (hr : r = a * b) (ha : a < M) (hb : b < M) : Hid (∀ j, 512 ≤ j → r.testBit j = false) :=
  fun _ hj => by rw [hr]; exact hi_prod 256 a b (lt256 ha).out (lt256 hb).out _ (by omega)
theorem rproduct_any (a b : Nat) (w : World) : Calls Try.prog 17 #[wv a, wv b] w (RowOf w 512 (a % M * (b % M))) := by
  rw [← wv_mod a, ← wv_mod b]
  exact rproduct_any0 _ _ (Nat.mod_lt _ Mpos) (Nat.mod_lt _ Mpos) w
/-- the product's row as a word -/
theorem hi512m (r a b : Nat) (hr : Hid (r = a % M * (b % M))) : Hid (∀ j, 512 ≤ j → r.testBit j = false) := hi512 hr.out (Nat.mod_lt _ Mpos) (Nat.mod_lt _ Mpos)
structure PW (w : World) (a b p r : Nat) (x : World) : Prop where
  ra : x.rowIs w.heap.size 24 4 (u64s (limb a))
  rz : x.rowIs (w.heap.size + 1 + 1) 24 4 (u64s fun _ => 0)
  rl : x.rowIs p 4 256 (bools b.testBit)
  hp : p < r
  hr : w.heap.size + 1 + 1 < r
  be : Below w.heap.size w x
theorem PW.call {w : World} {a b p r : Nat} {x y : World} (h : PW w a b p r x) (hb : Below x.heap.size x y) : PW w a b p r y :=
  ⟨row_below h.ra hb, row_below h.rz hb, row_below h.rl hb, h.hp, h.hr, bcall h.be hb⟩
theorem PW.put {w : World} {a b p r : Nat} {x : World} (h : PW w a b p r x) (v0 v1 v2 v3 : Value) : PW w a b p r ((((x.setCell ⟨r, 0, none⟩ v0).setCell ⟨r, 1, none⟩ v1).setCell ⟨r, 2, none⟩ v2).setCell ⟨r, 3, none⟩ v3) := by
  have h1 := h.hp
  have h2 := h.hr
  exact ⟨h.ra.of_block (put4_other rfl _ (by omega)), h.rz.of_block (put4_other rfl _ (by omega)), h.rl.of_block (put4_other rfl _ (by omega)), h1, h2, below_put4 h.be (by omega) _ _ _ _⟩
theorem pw_sq {a b i p r s : Nat} (hp : p % M = a ^ (b / 2 ^ (i + 1)) % M) (hs : s = p % M * (p % M)) (h0 : b.testBit i = false) : s % M = a ^ (b / 2 ^ i) % M := by
  rw [pow_bit a b i, h0, hs, hp, ← Nat.mul_mod]; simp
theorem pw_sqm {a b i p r s t : Nat} (hp : p % M = a ^ (b / 2 ^ (i + 1)) % M) (hs : s = p % M * (p % M)) (ht : t = s % M * (a % M)) (h0 : b.testBit i = true) : t % M = a ^ (b / 2 ^ i) % M := by
  rw [pow_bit a b i, h0, ht, hs, hp, if_pos rfl]
  simp [Nat.mul_mod]
theorem pw_begin {a b i p : Nat} (hz : b / 2 ^ (i + 1) = 0) (hp : p % M = a ^ (b / 2 ^ (i + 1)) % M) (h0 : b.testBit i = false) : b / 2 ^ i = 0 ∧ p % M = a ^ (b / 2 ^ i) % M := by
  have hs := div_step b i
  rw [h0, hz] at hs
  have e : b / 2 ^ i = 0 := by simpa using hs
  rw [hz] at hp
  exact ⟨e, by rw [e]; exact hp⟩
theorem pw_first {a b i p t : Nat} (hz : b / 2 ^ (i + 1) = 0) (hp : p % M = a ^ (b / 2 ^ (i + 1)) % M) (ht : t = p % M * (a % M)) (h0 : b.testBit i = true) : t % M = a ^ (b / 2 ^ i) % M := by
  have hs := div_step b i
  rw [h0, hz] at hs
  have e : b / 2 ^ i = 1 := by simpa using hs
  rw [hz, Nat.pow_zero] at hp
  rw [e, Nat.pow_one, ht, hp]
  simp [Nat.mul_mod]
theorem pw_one (b i : Nat) (h0 : b.testBit i = true) : b / 2 ^ i ≠ 0 := by
  have hs := div_step b i
  rw [h0] at hs
  simp at hs; omega
theorem pw_on (b i : Nat) (h : b / 2 ^ (i + 1) ≠ 0) : b / 2 ^ i ≠ 0 := by
  have hs := div_step b i
  omega
set_option maxRecDepth 100000 in
set_option maxHeartbeats 4000000 in
theorem rpower_any0 (a b : Nat) (hb0 : Hid (b < M)) (w : World) : Calls Try.prog 20 #[wv a, wv b] w (Ret w (fexp a b)) := by
  have hs := SS.start w a b
  go_enter Try.func20, Try.ntmps20
  go_wp2_with fail
  refine (bitsOf_any b _).mono ?_
  rintro e w1 ⟨p, rfl, _, hrl, hb⟩
  replace hs := hs.call hb
  clear hb
  go_wp2_with fail
  refine (rsmall_any 1 (by omega) _).mono ?_
  rintro e w2 ⟨o, HO, rfl, hb⟩
  replace hs := hs.call hb
  replace hrl := row_below hrl hb
  clear hb
  have hw : PW w a b p w2.heap.size (w2.alloc (.cells #[.int .u64 (limb o 0), .int .u64 (limb o 1), .int .u64 (limb o 2), .int .u64 (limb o 3)] 24)) := ⟨hs.ra.alloc _, hs.rz.alloc _, hrl.alloc _, hrl.lt, hs.rz.lt, bal hs.be _⟩
  have hro : (w2.alloc (.cells #[.int .u64 (limb o 0), .int .u64 (limb o 1), .int .u64 (limb o 2), .int .u64 (limb o 3)] 24)).rowIs w2.heap.size 24 4 (u64s (limb o)) := row_lit4 (limb o) rfl rfl rfl rfl rfl
  clear hs hrl
  go_wp2
  generalize w2.heap.size = r at *
  go_loopw [7, 8] (fun t7 t8 wr => ∃ i q : Nat, i ≤ 256 ∧ t8 = .int .i64 ((i : Int) - 1) ∧ t7 = .bool (decide (b / 2 ^ i ≠ 0)) ∧ PW w a b p r wr ∧ wr.rowIs r 24 4 (u64s (limb q)) ∧ Hid (q % M = a ^ (b / 2 ^ i) % M))
     (fun _ t8 _ => (intOf t8 + 1).toNat)
  case atStart =>
    have e : b / 2 ^ 256 = 0 := Nat.div_eq_of_lt hb0.out
    refine ⟨256, o, by omega, rfl, ?_, hw, hro, ?_⟩
    · rw [e]; rfl
    · show _ = _
      rw [e, HO.out]; rfl
  case round =>
    clear hw hro
    obtain ⟨i, q, hi, rfl, rfl, hs, hro, HQ⟩ := hrel
    by_cases hlt : i = 0
    · as_aux_lemma =>
      subst hlt
      obtain ⟨c0, c1, c2, c3⟩ := row_cells4 hro
      have hrz := hs.rz
      have hbel := hs.be
      obtain ⟨x0, x1, x2, x3⟩ := row_cells4 hrz
      have fz := hrz.frozen
      go_wp2
      obtain ⟨q0, q1, q2, q3⟩ := row_cells4 (row_put4 hrz (limb q) rfl rfl rfl rfl)
      refine bodyPost_ret (v := wv q) (by simp [results, Try.results20, go_sem, q0, q1, q2, q3]) rfl (ret_mk (by rw [HQ.out, Nat.pow_zero, Nat.div_one]; unfold fexp; rw [Nat.mod_mod]) ?_)
      exact below_put4 hbel (by omega) _ _ _ _
    · obtain ⟨m, rfl⟩ : ∃ m, i = m + 1 := ⟨i - 1, by omega⟩
      rw [show (((m + 1 : Nat) : Int) - 1) = (m : Int) by omega]
      obtain ⟨t, Ht⟩ : ∃ t, Hid (t = decide (b / 2 ^ (m + 1) ≠ 0)) := ⟨_, rfl⟩
      rw [← Ht.out]
      have cl := hs.rl.cell (i := m) (by omega)
      simp only [bools] at cl
      go_upto_if 16 with fail
      go_cut [7] (fun t7 wx => ∃ s : Nat, t7 = .bool t ∧ PW w a b p r wx ∧ wx.rowIs r 24 4 (u64s (limb s)) ∧ Hid (if t then s = q % M * (q % M) else s = q))
      case first =>
        as_aux_lemma =>
        cases t
        · go_wp2_with fail
          go_meet
          case rel => exact ⟨q, rfl, hs, hro, rfl⟩
        · obtain ⟨c0, c1, c2, c3⟩ := row_cells4 hro
          go_wp2_with fail
          refine (rproduct_any q q _).mono ?_
          rintro e w3 ⟨p3, s, HS, rfl, _, hr3, hb⟩
          replace hs := hs.call hb
          replace hro := row_below hro hb
          clear hb c0 c1 c2 c3
          go_wp2_with fail
          refine (wordOf_any s 512 p3 512 (by omega) (hi512m s q q HS) _ hr3).mono ?_
          rintro e w4 ⟨rfl, hb⟩
          replace hs := hs.call hb
          replace hro := row_below hro hb
          clear hb hr3
          obtain ⟨c0, c1, c2, c3⟩ := row_cells4 hro
          have fz := hro.frozen
          go_wp2_with fail
          go_meet
          case rel => exact ⟨s, rfl, hs.put _ _ _ _, row_put4 hro (limb s) rfl rfl rfl rfl, HS⟩
      case rest =>
        as_aux_lemma =>
        clear hs hro cl
        obtain ⟨s, rfl, hs, hro, HS⟩ := hcut
        have cl := hs.rl.cell (i := m) (by omega)
        simp only [bools] at cl
        cases hc : b.testBit m
        · rw [hc] at cl
          have HC : Hid (b.testBit m = false) := hc
          clear hc
          go_wp2
          go_roundw
          case rel =>
            cases t
            · have h0 : b / 2 ^ (m + 1) = 0 := by have := Ht.out.symm; simpa using this
              obtain ⟨h1, h2⟩ := pw_begin h0 HQ.out HC.out
              have e : s = q := HS.out
              exact ⟨m, s, by omega, rfl, by rw [h1]; rfl, hs, hro, by show _ = _; rw [e]; exact h2⟩
            · have h0 : b / 2 ^ (m + 1) ≠ 0 := by have := Ht.out.symm; simpa using this
              exact ⟨m, s, by omega, rfl, by rw [decide_eq_true (pw_on b m h0)], hs, hro, pw_sq (r := 0) HQ.out HS.out HC.out⟩
          case measure => simp [intOf]
        · rw [hc] at cl
          have HC : Hid (b.testBit m = true) := hc
          clear hc
          obtain ⟨c0, c1, c2, c3⟩ := row_cells4 hro
          obtain ⟨a0, a1, a2, a3⟩ := row_cells4 hs.ra
          go_wp2_with fail
          refine (rproduct_any s a _).mono ?_
          rintro e w3 ⟨p3, u, HU, rfl, _, hr3, hb⟩
          replace hs := hs.call hb
          replace hro := row_below hro hb
          clear hb c0 c1 c2 c3 a0 a1 a2 a3 cl
          go_wp2_with fail
          refine (wordOf_any u 512 p3 512 (by omega) (hi512m u s a HU) _ hr3).mono ?_
          rintro e w4 ⟨rfl, hb⟩
          replace hs := hs.call hb
          replace hro := row_below hro hb
          clear hb hr3
          obtain ⟨c0, c1, c2, c3⟩ := row_cells4 hro
          have fz := hro.frozen
          go_wp2
          go_roundw
          case rel =>
            refine ⟨m, u, by omega, rfl, by rw [decide_eq_true (pw_one b m HC.out)], hs.put _ _ _ _, row_put4 hro (limb u) rfl rfl rfl rfl, ?_⟩
            cases t
            · have h0 : b / 2 ^ (m + 1) = 0 := by have := Ht.out.symm; simpa using this
              have e : s = q := HS.out
              exact pw_first h0 HQ.out (by rw [HU.out, e]) HC.out
            · exact pw_sqm (r := 0) HQ.out HS.out HU.out HC.out
          case measure => simp [intOf]
theorem rpower_any (a b : Nat) (w : World) : Calls Try.prog 20 #[wv a, wv b] w (Ret w (fexp (a % M) (b % M))) := by
  rw [← wv_mod a, ← wv_mod b]
  exact rpower_any0 _ _ (Nat.mod_lt _ Mpos) w
end cin
end Go.Proofs.Ytohoajjdoihekaa
