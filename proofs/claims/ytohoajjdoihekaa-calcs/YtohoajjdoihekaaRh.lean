/-
  The walks of the document's answer: shifted bits; the operations on bits.
-/
import Derived.Test.YtohoajjdoihekaaRg
set_option linter.unusedVariables false
set_option linter.unusedSimpArgs false
namespace Go.Proofs.Ytohoajjdoihekaa
open Go.RowKit
namespace cin
set_option maxRecDepth 100000 in
set_option maxHeartbeats 4000000 in
theorem rshifted_any (b p c r : Nat) (n : Int) (fill : Bool) (hn0 : -256 ≤ n) (hn1 : n ≤ 256) (hr : Hid (∀ i, i < 256 → r.testBit i = shb b n fill i)) (hM : Hid (r < M)) (w : World) (hl : w.rowIs p 4 256 (bools b.testBit)) :
    Calls Try.prog 54 #[.slice (some ⟨p, 0, none⟩) 256 c, .int .i64 n, .bool fill] w (Ret w r) := by
  have hmk := make_bits 256 (by omega)
  simp only [Int.cast_ofNat_Int] at hmk
  have hp := hl.lt
  go_enter Try.func54, Try.ntmps54
  go_wp2
  go_loopw [8] (fun t8 wr => ∃ i : Nat, i ≤ 256 ∧ t8 = .int .i64 i ∧ wr.rowIs w.heap.size 24 4 (u64s fun _ => 0) ∧ wr.rowIs (w.heap.size + 1) 4 256 (bools fun j => if j < i then r.testBit j else false) ∧ Below w.heap.size w wr)
     (fun t8 _ => 256 - (intOf t8).toNat)
  case atStart => exact ⟨0, by omega, rfl, (row_lit4 (fun _ => 0) rfl rfl rfl rfl rfl).alloc _, rowb_made (by simp) fun j _ => by simp, bal (bal (Below.refl _ _) _) _⟩
  case round =>
    clear hmk
    obtain ⟨i, hi, rfl, hrz, hro, hbel⟩ := hrel
    by_cases hlt : i < 256
    · have hdi : decide ((i : Int) < 256) = true := by simp; omega
      have fo := hro.frozen i
      have co := hro.cell (i := i) (by omega)
      have hb := hr.out i hlt
      by_cases h0 : 0 ≤ (i : Int) - n
      · by_cases h1 : (i : Int) - n < 256
        · obtain ⟨k, hk⟩ : ∃ k : Nat, (i : Int) - n = (k : Int) := ⟨((i : Int) - n).toNat, by omega⟩
          have hkl : k < 256 := by omega
          have HB : Hid (r.testBit i = b.testBit k) := by
            show _ = _
            rw [hb]; unfold shb; rw [if_pos ⟨h0, h1⟩, hk]; rfl
          have cl := (row_below hl hbel).cell hkl
          simp only [bools] at cl
          clear hb h0 h1
          go_wp2
          go_roundw
          case rel =>
            refine ⟨i + 1, by omega, by go_num, (hrz.setOther (by simp) _).setOther (by simp) _, ?_, bset (bset hbel (by simp) _) (by simp) _⟩
            refine ((hro.set i _).set i _).congr fun j _ => ?_
            simp only [bools]
            by_cases e : j = i
            · subst e; simp [HB.out]
            · by_cases l : j < i
              · simp [e, l, Nat.lt_succ_of_lt l]
              · simp [e, l, show ¬ j < i + 1 by omega]
          case measure => simp [intOf]; omega
        · have HB : Hid (fill = r.testBit i) := by
            show _ = _
            rw [hb]; unfold shb; rw [if_neg (by omega)]
          have hd1 : decide ((i : Int) - n < 256) = false := decide_eq_false h1
          have hd0 : decide (0 ≤ (i : Int) - n) = true := decide_eq_true h0
          clear hb
          go_wp2
          go_roundw
          case rel => exact ⟨i + 1, by omega, by go_num, hrz.setOther (by simp) _, rowb_up hro HB.out, bset hbel (by simp) _⟩
          case measure => simp [intOf]; omega
      · have HB : Hid (fill = r.testBit i) := by
          show _ = _
          rw [hb]; unfold shb; rw [if_neg (by omega)]
        have hd0 : decide (0 ≤ (i : Int) - n) = false := decide_eq_false h0
        clear hb
        go_wp2
        go_roundw
        case rel => exact ⟨i + 1, by omega, by go_num, hrz.setOther (by simp) _, rowb_up hro HB.out, bset hbel (by simp) _⟩
        case measure => simp [intOf]; omega
    · obtain rfl : i = 256 := by omega
      have hr2 : wr.rowIs (w.heap.size + 1) 4 256 (bools r.testBit) := hro.congr fun j hj => by simp only [bools]; rw [if_pos hj]
      clear hro
      go_wp2_with fail
      refine (wordOf_any r 256 (w.heap.size + 1) 256 (by omega) (hi256 hM.out) _ hr2).mono ?_
      rintro e w1 ⟨rfl, hb⟩
      replace hrz := row_below hrz hb
      replace hbel := bcall hbel hb
      clear hb hr2
      obtain ⟨x0, x1, x2, x3⟩ := row_cells4 hrz
      have fz := hrz.frozen
      go_wp2
      obtain ⟨q0, q1, q2, q3⟩ := row_cells4 (row_put4 hrz (limb r) rfl rfl rfl rfl)
      refine bodyPost_ret (v := wv r) (by simp [results, Try.results54, go_sem, q0, q1, q2, q3]) rfl (ret_mk rfl ?_)
      exact below_put4 hbel (by omega) _ _ _ _
theorem xor_bit (a b i : Nat) : (a ^^^ b).testBit i = (a.testBit i != b.testBit i) := by rw [Nat.testBit_xor]
structure BW (w : World) (a b p q r : Nat) (x : World) : Prop where
  rp : x.rowIs p 4 256 (bools a.testBit)
  rq : x.rowIs q 4 256 (bools b.testBit)
  rz : x.rowIs (w.heap.size + 1 + 1) 24 4 (u64s fun _ => 0)
  hp : p < r
  hq : q < r
  hz : w.heap.size + 1 + 1 < r
  be : Below w.heap.size w x
theorem BW.call {w : World} {a b p q r : Nat} {x y : World} (h : BW w a b p q r x) (hb : Below x.heap.size x y) : BW w a b p q r y :=
  ⟨row_below h.rp hb, row_below h.rq hb, row_below h.rz hb, h.hp, h.hq, h.hz, bcall h.be hb⟩
theorem BW.set {w : World} {a b p q r : Nat} {x : World} (h : BW w a b p q r x) (j : Nat) (v : Value) : BW w a b p q r (x.setCell ⟨r, j, none⟩ v) := by
  have h1 := h.hp
  have h2 := h.hq
  have h3 := h.hz
  exact ⟨h.rp.setOther (by simp; omega) _, h.rq.setOther (by simp; omega) _, h.rz.setOther (by simp; omega) _, h1, h2, h3, bset h.be (by simp; omega) _⟩
theorem BW.drew {w : World} {a b p q r : Nat} {x : World} (h : BW w a b p q r x) : BW w a b p q r x.drew := ⟨h.rp, h.rq, h.rz, h.hp, h.hq, h.hz, h.be.drew⟩
set_option maxRecDepth 100000 in
set_option maxHeartbeats 4000000 in
theorem rand_any (a b : Nat) (ha : Hid (a < M)) (hb0 : Hid (b < M)) (w : World) : Calls Try.prog 26 #[.int .u8 22, wv a, wv b] w (Ret w (a &&& b)) := by
  obtain ⟨R, HR⟩ : ∃ R, Hid (R = a &&& b) := ⟨_, rfl⟩
  have HM : Hid (R < M) := by show _ < _; rw [HR.out]; exact and_lt _ _ ha.out
  have hmk := make_bits 256 (by omega)
  simp only [Int.cast_ofNat_Int] at hmk
  have hs := SS.start w a b
  go_enter Try.func26, Try.ntmps26
  go_wp2_with fail
  refine (bitsOf_any a _).mono ?_
  rintro e w1 ⟨p, rfl, _, hrp, hb⟩
  replace hs := hs.call hb
  clear hb
  obtain ⟨c0, c1, c2, c3⟩ := row_cells4 hs.rb
  go_wp2_with fail
  refine (bitsOf_any b _).mono ?_
  rintro e w2 ⟨q, rfl, _, hrq, hb⟩
  replace hs := hs.call hb
  replace hrp := row_below hrp hb
  clear hb c0 c1 c2 c3
  obtain ⟨c0, c1, c2, c3⟩ := row_cells4 hs.ra
  go_wp2_with fail
  refine (rint_any a 256 (by omega) _).mono ?_
  rintro e w3 ⟨rfl, hb⟩
  replace hs := hs.call hb
  replace hrp := row_below hrp hb
  replace hrq := row_below hrq hb
  clear hb c0 c1 c2 c3
  have hw : BW w a b p q w3.heap.size (w3.alloc (.cells (madeCells #[.bool false] 256) 4)) := ⟨hrp.alloc _, hrq.alloc _, hs.rz.alloc _, hrp.lt, hrq.lt, hs.rz.lt, bal hs.be _⟩
  have hro : (w3.alloc (.cells (madeCells #[.bool false] 256) 4)).rowIs w3.heap.size 4 256 (bools fun _ => false) := rowb_made rfl fun j _ => rfl
  clear hs hrp hrq
  go_wp2
  generalize w3.heap.size = r at *
  go_loopw [12] (fun t12 wr => ∃ i : Nat, i ≤ 256 ∧ t12 = .int .i64 i ∧ BW w a b p q r wr ∧ wr.rowIs r 4 256 (bools fun j => if j < i then R.testBit j else false))
     (fun t12 _ => 256 - (intOf t12).toNat)
  case atStart => exact ⟨0, by omega, rfl, hw, hro.congr fun j _ => by simp [bools]⟩
  case round =>
    clear hw hro hmk
    obtain ⟨i, hi, rfl, hs, hro⟩ := hrel
    by_cases hlt : i < 256
    · have hdi : decide ((i : Int) < 256) = true := by simp; omega
      have fo := hro.frozen i
      have co := hro.cell (i := i) (by omega)
      have cp := hs.rp.cell hlt
      have cq := hs.rq.cell hlt
      simp only [bools] at cp cq
      have HB : Hid (R.testBit i = (a.testBit i && b.testBit i)) := by show _ = _; rw [HR.out]; exact Nat.testBit_and _ _ _
      generalize a.testBit i = u at *
      generalize b.testBit i = v at *
      cases u <;> cases v
      all_goals go_wp2
      all_goals go_roundw
      all_goals first
        | exact ⟨i + 1, by omega, by go_num, hs.set _ _, rowb_up hro (by rw [HB.out]; rfl)⟩
        | (simp [intOf]; omega)
    · obtain rfl : i = 256 := by omega
      have hr2 : wr.rowIs r 4 256 (bools R.testBit) := hro.congr fun j hj => by simp only [bools]; rw [if_pos hj]
      clear hro
      go_wp2_with fail
      refine (wordOf_any R 256 r 256 (by omega) (hi256 HM.out) _ hr2).mono ?_
      rintro e w1 ⟨rfl, hb⟩
      replace hs := hs.call hb
      clear hb hr2
      have hrz := hs.rz
      have hbel := hs.be
      obtain ⟨x0, x1, x2, x3⟩ := row_cells4 hrz
      have fz := hrz.frozen
      go_wp2
      obtain ⟨q0, q1, q2, q3⟩ := row_cells4 (row_put4 hrz (limb R) rfl rfl rfl rfl)
      refine bodyPost_ret (v := wv R) (by simp [results, Try.results26, go_sem, q0, q1, q2, q3]) rfl (ret_mk (by rw [HR.out]) ?_)
      exact below_put4 hbel (by omega) _ _ _ _
set_option maxRecDepth 100000 in
set_option maxHeartbeats 4000000 in
theorem ror_any (a b : Nat) (ha : Hid (a < M)) (hb0 : Hid (b < M)) (w : World) : Calls Try.prog 26 #[.int .u8 23, wv a, wv b] w (Ret w (a ||| b)) := by
  obtain ⟨R, HR⟩ : ∃ R, Hid (R = a ||| b) := ⟨_, rfl⟩
  have HM : Hid (R < M) := by show _ < _; rw [HR.out]; exact or_lt _ _ ha.out hb0.out
  have hmk := make_bits 256 (by omega)
  simp only [Int.cast_ofNat_Int] at hmk
  have hs := SS.start w a b
  go_enter Try.func26, Try.ntmps26
  go_wp2_with fail
  refine (bitsOf_any a _).mono ?_
  rintro e w1 ⟨p, rfl, _, hrp, hb⟩
  replace hs := hs.call hb
  clear hb
  obtain ⟨c0, c1, c2, c3⟩ := row_cells4 hs.rb
  go_wp2_with fail
  refine (bitsOf_any b _).mono ?_
  rintro e w2 ⟨q, rfl, _, hrq, hb⟩
  replace hs := hs.call hb
  replace hrp := row_below hrp hb
  clear hb c0 c1 c2 c3
  obtain ⟨c0, c1, c2, c3⟩ := row_cells4 hs.ra
  go_wp2_with fail
  refine (rint_any a 256 (by omega) _).mono ?_
  rintro e w3 ⟨rfl, hb⟩
  replace hs := hs.call hb
  replace hrp := row_below hrp hb
  replace hrq := row_below hrq hb
  clear hb c0 c1 c2 c3
  have hw : BW w a b p q w3.heap.size (w3.alloc (.cells (madeCells #[.bool false] 256) 4)) := ⟨hrp.alloc _, hrq.alloc _, hs.rz.alloc _, hrp.lt, hrq.lt, hs.rz.lt, bal hs.be _⟩
  have hro : (w3.alloc (.cells (madeCells #[.bool false] 256) 4)).rowIs w3.heap.size 4 256 (bools fun _ => false) := rowb_made rfl fun j _ => rfl
  clear hs hrp hrq
  go_wp2
  generalize w3.heap.size = r at *
  go_loopw [12] (fun t12 wr => ∃ i : Nat, i ≤ 256 ∧ t12 = .int .i64 i ∧ BW w a b p q r wr ∧ wr.rowIs r 4 256 (bools fun j => if j < i then R.testBit j else false))
     (fun t12 _ => 256 - (intOf t12).toNat)
  case atStart => exact ⟨0, by omega, rfl, hw, hro.congr fun j _ => by simp [bools]⟩
  case round =>
    clear hw hro hmk
    obtain ⟨i, hi, rfl, hs, hro⟩ := hrel
    by_cases hlt : i < 256
    · have hdi : decide ((i : Int) < 256) = true := by simp; omega
      have fo := hro.frozen i
      have co := hro.cell (i := i) (by omega)
      have cp := hs.rp.cell hlt
      have cq := hs.rq.cell hlt
      simp only [bools] at cp cq
      have HB : Hid (R.testBit i = (a.testBit i || b.testBit i)) := by show _ = _; rw [HR.out]; exact Nat.testBit_or _ _ _
      generalize a.testBit i = u at *
      generalize b.testBit i = v at *
      cases u <;> cases v
      all_goals go_wp2
      all_goals go_roundw
      all_goals first
        | exact ⟨i + 1, by omega, by go_num, hs.set _ _, rowb_up hro (by rw [HB.out]; rfl)⟩
        | (simp [intOf]; omega)
    · obtain rfl : i = 256 := by omega
      have hr2 : wr.rowIs r 4 256 (bools R.testBit) := hro.congr fun j hj => by simp only [bools]; rw [if_pos hj]
      clear hro
      go_wp2_with fail
      refine (wordOf_any R 256 r 256 (by omega) (hi256 HM.out) _ hr2).mono ?_
      rintro e w1 ⟨rfl, hb⟩
      replace hs := hs.call hb
      clear hb hr2
      have hrz := hs.rz
      have hbel := hs.be
      obtain ⟨x0, x1, x2, x3⟩ := row_cells4 hrz
      have fz := hrz.frozen
      go_wp2
      obtain ⟨q0, q1, q2, q3⟩ := row_cells4 (row_put4 hrz (limb R) rfl rfl rfl rfl)
      refine bodyPost_ret (v := wv R) (by simp [results, Try.results26, go_sem, q0, q1, q2, q3]) rfl (ret_mk (by rw [HR.out]) ?_)
      exact below_put4 hbel (by omega) _ _ _ _
set_option maxRecDepth 100000 in
set_option maxHeartbeats 4000000 in
theorem rxor_any (a b : Nat) (ha : Hid (a < M)) (hb0 : Hid (b < M)) (w : World) : Calls Try.prog 26 #[.int .u8 24, wv a, wv b] w (Ret w (a ^^^ b)) := by
  obtain ⟨R, HR⟩ : ∃ R, Hid (R = a ^^^ b) := ⟨_, rfl⟩
  have HM : Hid (R < M) := by show _ < _; rw [HR.out]; exact xor_lt _ _ ha.out hb0.out
  have hmk := make_bits 256 (by omega)
  simp only [Int.cast_ofNat_Int] at hmk
  have hs := SS.start w a b
  go_enter Try.func26, Try.ntmps26
  go_wp2_with fail
  refine (bitsOf_any a _).mono ?_
  rintro e w1 ⟨p, rfl, _, hrp, hb⟩
  replace hs := hs.call hb
  clear hb
  obtain ⟨c0, c1, c2, c3⟩ := row_cells4 hs.rb
  go_wp2_with fail
  refine (bitsOf_any b _).mono ?_
  rintro e w2 ⟨q, rfl, _, hrq, hb⟩
  replace hs := hs.call hb
  replace hrp := row_below hrp hb
  clear hb c0 c1 c2 c3
  obtain ⟨c0, c1, c2, c3⟩ := row_cells4 hs.ra
  go_wp2_with fail
  refine (rint_any a 256 (by omega) _).mono ?_
  rintro e w3 ⟨rfl, hb⟩
  replace hs := hs.call hb
  replace hrp := row_below hrp hb
  replace hrq := row_below hrq hb
  clear hb c0 c1 c2 c3
  have hw : BW w a b p q w3.heap.size (w3.alloc (.cells (madeCells #[.bool false] 256) 4)) := ⟨hrp.alloc _, hrq.alloc _, hs.rz.alloc _, hrp.lt, hrq.lt, hs.rz.lt, bal hs.be _⟩
  have hro : (w3.alloc (.cells (madeCells #[.bool false] 256) 4)).rowIs w3.heap.size 4 256 (bools fun _ => false) := rowb_made rfl fun j _ => rfl
  clear hs hrp hrq
  go_wp2
  generalize w3.heap.size = r at *
  go_loopw [12] (fun t12 wr => ∃ i : Nat, i ≤ 256 ∧ t12 = .int .i64 i ∧ BW w a b p q r wr ∧ wr.rowIs r 4 256 (bools fun j => if j < i then R.testBit j else false))
     (fun t12 _ => 256 - (intOf t12).toNat)
  case atStart => exact ⟨0, by omega, rfl, hw, hro.congr fun j _ => by simp [bools]⟩
  case round =>
    clear hw hro hmk
    obtain ⟨i, hi, rfl, hs, hro⟩ := hrel
    by_cases hlt : i < 256
    · have hdi : decide ((i : Int) < 256) = true := by simp; omega
      have fo := hro.frozen i
      have co := hro.cell (i := i) (by omega)
      have cp := hs.rp.cell hlt
      have cq := hs.rq.cell hlt
      simp only [bools] at cp cq
      have HB : Hid (R.testBit i = (a.testBit i != b.testBit i)) := by show _ = _; rw [HR.out]; exact xor_bit _ _ _
      go_wp2
      go_region
      all_goals go_wp2
      all_goals go_roundw
      case rel => exact ⟨i + 1, by omega, by go_num, (hs.set _ _).drew, (rowb_up hro HB.out.symm).drew⟩
      case measure => simp [intOf]; omega
    · obtain rfl : i = 256 := by omega
      have hr2 : wr.rowIs r 4 256 (bools R.testBit) := hro.congr fun j hj => by simp only [bools]; rw [if_pos hj]
      clear hro
      go_wp2_with fail
      refine (wordOf_any R 256 r 256 (by omega) (hi256 HM.out) _ hr2).mono ?_
      rintro e w1 ⟨rfl, hb⟩
      replace hs := hs.call hb
      clear hb hr2
      have hrz := hs.rz
      have hbel := hs.be
      obtain ⟨x0, x1, x2, x3⟩ := row_cells4 hrz
      have fz := hrz.frozen
      go_wp2
      obtain ⟨q0, q1, q2, q3⟩ := row_cells4 (row_put4 hrz (limb R) rfl rfl rfl rfl)
      refine bodyPost_ret (v := wv R) (by simp [results, Try.results26, go_sem, q0, q1, q2, q3]) rfl (ret_mk (by rw [HR.out]) ?_)
      exact below_put4 hbel (by omega) _ _ _ _
set_option maxRecDepth 100000 in
set_option maxHeartbeats 4000000 in
theorem rnot_any (a b : Nat) (ha : Hid (a < M)) (hb0 : Hid (b < M)) (w : World) : Calls Try.prog 26 #[.int .u8 25, wv a, wv b] w (Ret w (fnot a)) := by
  obtain ⟨R, HR⟩ : ∃ R, Hid (R = fnot a) := ⟨_, rfl⟩
  have HM : Hid (R < M) := by show _ < _; rw [HR.out]; exact fnot_lt _
  have hmk := make_bits 256 (by omega)
  simp only [Int.cast_ofNat_Int] at hmk
  have hs := SS.start w a b
  go_enter Try.func26, Try.ntmps26
  go_wp2_with fail
  refine (bitsOf_any a _).mono ?_
  rintro e w1 ⟨p, rfl, _, hrp, hb⟩
  replace hs := hs.call hb
  clear hb
  obtain ⟨c0, c1, c2, c3⟩ := row_cells4 hs.rb
  go_wp2_with fail
  refine (bitsOf_any b _).mono ?_
  rintro e w2 ⟨q, rfl, _, hrq, hb⟩
  replace hs := hs.call hb
  replace hrp := row_below hrp hb
  clear hb c0 c1 c2 c3
  obtain ⟨c0, c1, c2, c3⟩ := row_cells4 hs.ra
  go_wp2_with fail
  refine (rint_any a 256 (by omega) _).mono ?_
  rintro e w3 ⟨rfl, hb⟩
  replace hs := hs.call hb
  replace hrp := row_below hrp hb
  replace hrq := row_below hrq hb
  clear hb c0 c1 c2 c3
  have hw : BW w a b p q w3.heap.size (w3.alloc (.cells (madeCells #[.bool false] 256) 4)) := ⟨hrp.alloc _, hrq.alloc _, hs.rz.alloc _, hrp.lt, hrq.lt, hs.rz.lt, bal hs.be _⟩
  have hro : (w3.alloc (.cells (madeCells #[.bool false] 256) 4)).rowIs w3.heap.size 4 256 (bools fun _ => false) := rowb_made rfl fun j _ => rfl
  clear hs hrp hrq
  go_wp2
  generalize w3.heap.size = r at *
  go_loopw [12] (fun t12 wr => ∃ i : Nat, i ≤ 256 ∧ t12 = .int .i64 i ∧ BW w a b p q r wr ∧ wr.rowIs r 4 256 (bools fun j => if j < i then R.testBit j else false))
     (fun t12 _ => 256 - (intOf t12).toNat)
  case atStart => exact ⟨0, by omega, rfl, hw, hro.congr fun j _ => by simp [bools]⟩
  case round =>
    clear hw hro hmk
    obtain ⟨i, hi, rfl, hs, hro⟩ := hrel
    by_cases hlt : i < 256
    · have hdi : decide ((i : Int) < 256) = true := by simp; omega
      have fo := hro.frozen i
      have co := hro.cell (i := i) (by omega)
      have cp := hs.rp.cell hlt
      have cq := hs.rq.cell hlt
      simp only [bools] at cp cq
      have HB : Hid (R.testBit i = (!a.testBit i)) := by show _ = _; rw [HR.out]; exact fnot_bit a i ha.out hlt
      go_wp2
      go_roundw
      case rel => exact ⟨i + 1, by omega, by go_num, hs.set _ _, rowb_up hro HB.out.symm⟩
      case measure => simp [intOf]; omega
    · obtain rfl : i = 256 := by omega
      have hr2 : wr.rowIs r 4 256 (bools R.testBit) := hro.congr fun j hj => by simp only [bools]; rw [if_pos hj]
      clear hro
      go_wp2_with fail
      refine (wordOf_any R 256 r 256 (by omega) (hi256 HM.out) _ hr2).mono ?_
      rintro e w1 ⟨rfl, hb⟩
      replace hs := hs.call hb
      clear hb hr2
      have hrz := hs.rz
      have hbel := hs.be
      obtain ⟨x0, x1, x2, x3⟩ := row_cells4 hrz
      have fz := hrz.frozen
      go_wp2
      obtain ⟨q0, q1, q2, q3⟩ := row_cells4 (row_put4 hrz (limb R) rfl rfl rfl rfl)
      refine bodyPost_ret (v := wv R) (by simp [results, Try.results26, go_sem, q0, q1, q2, q3]) rfl (ret_mk (by rw [HR.out]) ?_)
      exact below_put4 hbel (by omega) _ _ _ _
set_option maxRecDepth 100000 in
set_option maxHeartbeats 4000000 in
theorem rbyte_any (a b : Nat) (ha : Hid (a < M)) (hb0 : Hid (b < M)) (w : World) : Calls Try.prog 26 #[.int .u8 26, wv a, wv b] w (Ret w (fbyte a b)) := by
  obtain ⟨R, HR⟩ : ∃ R, Hid (R = fbyte a b) := ⟨_, rfl⟩
  have HM : Hid (R < M) := by show _ < _; rw [HR.out]; exact fbyte_lt _ _
  have hmk := make_bits 256 (by omega)
  simp only [Int.cast_ofNat_Int] at hmk
  have hs := SS.start w a b
  go_enter Try.func26, Try.ntmps26
  go_wp2_with fail
  refine (bitsOf_any a _).mono ?_
  rintro e w1 ⟨p, rfl, _, hrp, hb⟩
  replace hs := hs.call hb
  clear hb
  obtain ⟨c0, c1, c2, c3⟩ := row_cells4 hs.rb
  go_wp2_with fail
  refine (bitsOf_any b _).mono ?_
  rintro e w2 ⟨q, rfl, _, hrq, hb⟩
  replace hs := hs.call hb
  replace hrp := row_below hrp hb
  clear hb c0 c1 c2 c3
  obtain ⟨c0, c1, c2, c3⟩ := row_cells4 hs.ra
  go_wp2_with fail
  refine (rint_any a 256 (by omega) _).mono ?_
  rintro e w3 ⟨rfl, hb⟩
  replace hs := hs.call hb
  replace hrp := row_below hrp hb
  replace hrq := row_below hrq hb
  clear hb c0 c1 c2 c3
  have hw : BW w a b p q w3.heap.size (w3.alloc (.cells (madeCells #[.bool false] 256) 4)) := ⟨hrp.alloc _, hrq.alloc _, hs.rz.alloc _, hrp.lt, hrq.lt, hs.rz.lt, bal hs.be _⟩
  have hro : (w3.alloc (.cells (madeCells #[.bool false] 256) 4)).rowIs w3.heap.size 4 256 (bools fun _ => false) := rowb_made rfl fun j _ => rfl
  clear hs hrp hrq
  by_cases h31 : a < 32
  · have e : fint a 256 = a := by unfold fint; rw [Nat.mod_eq_of_lt ha.out, if_pos (by omega)]
    rw [e]
    clear e
    go_wp2
    generalize w3.heap.size = r at *
    go_loopw [11] (fun t11 wr => ∃ i : Nat, i ≤ 8 ∧ t11 = .int .i64 i ∧ BW w a b p q r wr ∧ wr.rowIs r 4 256 (bools fun j => if j < i then R.testBit j else false))
       (fun t11 _ => 8 - (intOf t11).toNat)
    case atStart => exact ⟨0, by omega, rfl, hw, hro.congr fun j _ => by simp [bools]⟩
    case round =>
      clear hw hro hmk
      obtain ⟨i, hi, rfl, hs, hro⟩ := hrel
      by_cases hlt : i < 8
      · have hdi : decide ((i : Int) < 8) = true := by simp; omega
        have fo := hro.frozen i
        have co := hro.cell (i := i) (by omega)
        obtain ⟨k, hk⟩ : ∃ k : Nat, (8 : Int) * (31 - (a : Int)) + (i : Int) = (k : Int) := ⟨8 * (31 - a) + i, by omega⟩
        have HB : Hid (b.testBit k = R.testBit i) := by
          show _ = _
          rw [HR.out, byte_bits a b i h31 hb0.out (by omega), decide_eq_true hlt, Bool.true_and]; congr 1; omega
        have cq := hs.rq.cell (i := k) (by omega)
        simp only [bools] at cq
        go_wp2
        go_roundw
        case rel => exact ⟨i + 1, by omega, by go_num, hs.set _ _, rowb_up hro HB.out⟩
        case measure => simp [intOf]; omega
      · obtain rfl : i = 8 := by omega
        have hr2 : wr.rowIs r 4 256 (bools R.testBit) := hro.congr fun j hj => by
          simp only [bools]
          by_cases h : j < 8
          · rw [if_pos h]
          · rw [if_neg h, HR.out, byte_bits a b j h31 hb0.out hj, decide_eq_false h, Bool.false_and]
        clear hro
        go_wp2_with fail
        refine (wordOf_any R 256 r 256 (by omega) (hi256 HM.out) _ hr2).mono ?_
        rintro e w1 ⟨rfl, hb⟩
        replace hs := hs.call hb
        clear hb hr2
        have hrz := hs.rz
        have hbel := hs.be
        obtain ⟨x0, x1, x2, x3⟩ := row_cells4 hrz
        have fz := hrz.frozen
        go_wp2
        obtain ⟨q0, q1, q2, q3⟩ := row_cells4 (row_put4 hrz (limb R) rfl rfl rfl rfl)
        refine bodyPost_ret (v := wv R) (by simp [results, Try.results26, go_sem, q0, q1, q2, q3]) rfl (ret_mk (by rw [HR.out]) ?_)
        exact below_put4 hbel (by omega) _ _ _ _
  · have h9 : 31 < fint a 256 := by unfold fint; rw [Nat.mod_eq_of_lt ha.out]; split <;> omega
    have HZ : Hid (fbyte a b = 0) := by show _ = _; unfold fbyte; rw [if_neg h31]
    have hs : BW w a b p q w3.heap.size (w3.alloc (.cells (madeCells #[.bool false] 256) 4)) := hw
    clear hw hro
    generalize fint a 256 = n at *
    go_wp2_with fail
    refine (rsmall_any 0 (by omega) _).mono ?_
    rintro e w1 ⟨s, HS, rfl, hb⟩
    replace hs := hs.call hb
    clear hb
    have hrz := hs.rz
    have hbel := hs.be
    obtain ⟨x0, x1, x2, x3⟩ := row_cells4 hrz
    have fz := hrz.frozen
    go_wp2
    obtain ⟨q0, q1, q2, q3⟩ := row_cells4 (row_put4 hrz (limb s) rfl rfl rfl rfl)
    refine bodyPost_ret (v := wv s) (by simp [results, Try.results26, go_sem, q0, q1, q2, q3]) rfl (ret_mk (by rw [HS.out, HZ.out]) ?_)
    exact below_put4 hbel (by omega) _ _ _ _
set_option maxRecDepth 100000 in
set_option maxHeartbeats 4000000 in
theorem rshl_any (a b : Nat) (ha : Hid (a < M)) (hb0 : Hid (b < M)) (w : World) : Calls Try.prog 26 #[.int .u8 27, wv a, wv b] w (Ret w (fshl a b)) := by
  obtain ⟨R, HR⟩ : ∃ R, Hid (R = fshl a b) := ⟨_, rfl⟩
  have HM : Hid (R < M) := by show _ < _; rw [HR.out]; exact fshl_lt _ _
  have HF : Hid (fint a 256 = if a < 256 then a else 256) := by show _ = _; unfold fint; rw [Nat.mod_eq_of_lt ha.out]
  have HI : Hid (∀ i, i < 256 → R.testBit i = shb b (((fint a 256 : Nat) : Int)) false i) := fun i hi => by rw [HF.out, HR.out]; exact shl_bits a b i hb0.out hi
  have hle : fint a 256 ≤ 256 := by rw [HF.out]; split <;> omega
  have hmk := make_bits 256 (by omega)
  simp only [Int.cast_ofNat_Int] at hmk
  have hs := SS.start w a b
  go_enter Try.func26, Try.ntmps26
  go_wp2_with fail
  refine (bitsOf_any a _).mono ?_
  rintro e w1 ⟨p, rfl, _, hrp, hb⟩
  replace hs := hs.call hb
  clear hb
  obtain ⟨c0, c1, c2, c3⟩ := row_cells4 hs.rb
  go_wp2_with fail
  refine (bitsOf_any b _).mono ?_
  rintro e w2 ⟨q, rfl, _, hrq, hb⟩
  replace hs := hs.call hb
  replace hrp := row_below hrp hb
  clear hb c0 c1 c2 c3
  obtain ⟨c0, c1, c2, c3⟩ := row_cells4 hs.ra
  go_wp2_with fail
  refine (rint_any a 256 (by omega) _).mono ?_
  rintro e w3 ⟨rfl, hb⟩
  replace hs := hs.call hb
  replace hrp := row_below hrp hb
  replace hrq := row_below hrq hb
  clear hb c0 c1 c2 c3
  have hw : BW w a b p q w3.heap.size (w3.alloc (.cells (madeCells #[.bool false] 256) 4)) := ⟨hrp.alloc _, hrq.alloc _, hs.rz.alloc _, hrp.lt, hrq.lt, hs.rz.lt, bal hs.be _⟩
  have hro : (w3.alloc (.cells (madeCells #[.bool false] 256) 4)).rowIs w3.heap.size 4 256 (bools fun _ => false) := rowb_made rfl fun j _ => rfl
  clear hs hrp hrq
  have hs : BW w a b p q w3.heap.size (w3.alloc (.cells (madeCells #[.bool false] 256) 4)) := hw
  have hrq := hw.rq
  clear hw hro
  generalize fint a 256 = n at *
  go_wp2_with fail
  refine (rshifted_any b q 256 R ((n : Int)) false (by omega) (by omega) HI HM _ hrq).mono ?_
  rintro e w1 ⟨s, HS, rfl, hb⟩
  replace hs := hs.call hb
  clear hb hrq
  have hrz := hs.rz
  have hbel := hs.be
  obtain ⟨x0, x1, x2, x3⟩ := row_cells4 hrz
  have fz := hrz.frozen
  go_wp2
  obtain ⟨q0, q1, q2, q3⟩ := row_cells4 (row_put4 hrz (limb s) rfl rfl rfl rfl)
  refine bodyPost_ret (v := wv s) (by simp [results, Try.results26, go_sem, q0, q1, q2, q3]) rfl (ret_mk (by rw [HS.out, HR.out]) ?_)
  exact below_put4 hbel (by omega) _ _ _ _
set_option maxRecDepth 100000 in
set_option maxHeartbeats 4000000 in
theorem rshr_any (a b : Nat) (ha : Hid (a < M)) (hb0 : Hid (b < M)) (w : World) : Calls Try.prog 26 #[.int .u8 28, wv a, wv b] w (Ret w (fshr a b)) := by
  obtain ⟨R, HR⟩ : ∃ R, Hid (R = fshr a b) := ⟨_, rfl⟩
  have HM : Hid (R < M) := by show _ < _; rw [HR.out]; exact fshr_lt _ _ hb0.out
  have HF : Hid (fint a 256 = if a < 256 then a else 256) := by show _ = _; unfold fint; rw [Nat.mod_eq_of_lt ha.out]
  have HI : Hid (∀ i, i < 256 → R.testBit i = shb b (-((fint a 256 : Nat) : Int)) false i) := fun i hi => by rw [HF.out, HR.out]; exact shr_bits a b i hb0.out hi
  have hle : fint a 256 ≤ 256 := by rw [HF.out]; split <;> omega
  have hmk := make_bits 256 (by omega)
  simp only [Int.cast_ofNat_Int] at hmk
  have hs := SS.start w a b
  go_enter Try.func26, Try.ntmps26
  go_wp2_with fail
  refine (bitsOf_any a _).mono ?_
  rintro e w1 ⟨p, rfl, _, hrp, hb⟩
  replace hs := hs.call hb
  clear hb
  obtain ⟨c0, c1, c2, c3⟩ := row_cells4 hs.rb
  go_wp2_with fail
  refine (bitsOf_any b _).mono ?_
  rintro e w2 ⟨q, rfl, _, hrq, hb⟩
  replace hs := hs.call hb
  replace hrp := row_below hrp hb
  clear hb c0 c1 c2 c3
  obtain ⟨c0, c1, c2, c3⟩ := row_cells4 hs.ra
  go_wp2_with fail
  refine (rint_any a 256 (by omega) _).mono ?_
  rintro e w3 ⟨rfl, hb⟩
  replace hs := hs.call hb
  replace hrp := row_below hrp hb
  replace hrq := row_below hrq hb
  clear hb c0 c1 c2 c3
  have hw : BW w a b p q w3.heap.size (w3.alloc (.cells (madeCells #[.bool false] 256) 4)) := ⟨hrp.alloc _, hrq.alloc _, hs.rz.alloc _, hrp.lt, hrq.lt, hs.rz.lt, bal hs.be _⟩
  have hro : (w3.alloc (.cells (madeCells #[.bool false] 256) 4)).rowIs w3.heap.size 4 256 (bools fun _ => false) := rowb_made rfl fun j _ => rfl
  clear hs hrp hrq
  have hs : BW w a b p q w3.heap.size (w3.alloc (.cells (madeCells #[.bool false] 256) 4)) := hw
  have hrq := hw.rq
  clear hw hro
  generalize fint a 256 = n at *
  go_wp2_with fail
  refine (rshifted_any b q 256 R (-(n : Int)) false (by omega) (by omega) HI HM _ hrq).mono ?_
  rintro e w1 ⟨s, HS, rfl, hb⟩
  replace hs := hs.call hb
  clear hb hrq
  have hrz := hs.rz
  have hbel := hs.be
  obtain ⟨x0, x1, x2, x3⟩ := row_cells4 hrz
  have fz := hrz.frozen
  go_wp2
  obtain ⟨q0, q1, q2, q3⟩ := row_cells4 (row_put4 hrz (limb s) rfl rfl rfl rfl)
  refine bodyPost_ret (v := wv s) (by simp [results, Try.results26, go_sem, q0, q1, q2, q3]) rfl (ret_mk (by rw [HS.out, HR.out]) ?_)
  exact below_put4 hbel (by omega) _ _ _ _
set_option maxRecDepth 100000 in
set_option maxHeartbeats 4000000 in
theorem rsar_any (a b : Nat) (ha : Hid (a < M)) (hb0 : Hid (b < M)) (w : World) : Calls Try.prog 26 #[.int .u8 29, wv a, wv b] w (Ret w (fsar a b)) := by
  obtain ⟨R, HR⟩ : ∃ R, Hid (R = fsar a b) := ⟨_, rfl⟩
  have HM : Hid (R < M) := by show _ < _; rw [HR.out]; exact fsar_lt _ _ hb0.out
  have HF : Hid (fint a 256 = if a < 256 then a else 256) := by show _ = _; unfold fint; rw [Nat.mod_eq_of_lt ha.out]
  have HI : Hid (∀ i, i < 256 → R.testBit i = shb b (-((fint a 256 : Nat) : Int)) (b.testBit 255) i) := fun i hi => by rw [HF.out, HR.out]; exact sar_bits a b i hb0.out hi
  have hle : fint a 256 ≤ 256 := by rw [HF.out]; split <;> omega
  have hmk := make_bits 256 (by omega)
  simp only [Int.cast_ofNat_Int] at hmk
  have hs := SS.start w a b
  go_enter Try.func26, Try.ntmps26
  go_wp2_with fail
  refine (bitsOf_any a _).mono ?_
  rintro e w1 ⟨p, rfl, _, hrp, hb⟩
  replace hs := hs.call hb
  clear hb
  obtain ⟨c0, c1, c2, c3⟩ := row_cells4 hs.rb
  go_wp2_with fail
  refine (bitsOf_any b _).mono ?_
  rintro e w2 ⟨q, rfl, _, hrq, hb⟩
  replace hs := hs.call hb
  replace hrp := row_below hrp hb
  clear hb c0 c1 c2 c3
  obtain ⟨c0, c1, c2, c3⟩ := row_cells4 hs.ra
  go_wp2_with fail
  refine (rint_any a 256 (by omega) _).mono ?_
  rintro e w3 ⟨rfl, hb⟩
  replace hs := hs.call hb
  replace hrp := row_below hrp hb
  replace hrq := row_below hrq hb
  clear hb c0 c1 c2 c3
  have hw : BW w a b p q w3.heap.size (w3.alloc (.cells (madeCells #[.bool false] 256) 4)) := ⟨hrp.alloc _, hrq.alloc _, hs.rz.alloc _, hrp.lt, hrq.lt, hs.rz.lt, bal hs.be _⟩
  have hro : (w3.alloc (.cells (madeCells #[.bool false] 256) 4)).rowIs w3.heap.size 4 256 (bools fun _ => false) := rowb_made rfl fun j _ => rfl
  clear hs hrp hrq
  have hs : BW w a b p q w3.heap.size (w3.alloc (.cells (madeCells #[.bool false] 256) 4)) := hw
  have hrq := hw.rq
  clear hw hro
  generalize fint a 256 = n at *
  have c255 := hrq.cell (i := 255) (by omega)
  simp only [bools] at c255
  go_wp2_with fail
  refine (rshifted_any b q 256 R (-(n : Int)) (b.testBit 255) (by omega) (by omega) HI HM _ hrq).mono ?_
  rintro e w1 ⟨s, HS, rfl, hb⟩
  replace hs := hs.call hb
  clear hb hrq c255
  have hrz := hs.rz
  have hbel := hs.be
  obtain ⟨x0, x1, x2, x3⟩ := row_cells4 hrz
  have fz := hrz.frozen
  go_wp2
  obtain ⟨q0, q1, q2, q3⟩ := row_cells4 (row_put4 hrz (limb s) rfl rfl rfl rfl)
  refine bodyPost_ret (v := wv s) (by simp [results, Try.results26, go_sem, q0, q1, q2, q3]) rfl (ret_mk (by rw [HS.out, HR.out]) ?_)
  exact below_put4 hbel (by omega) _ _ _ _
end cin
end Go.Proofs.Ytohoajjdoihekaa
