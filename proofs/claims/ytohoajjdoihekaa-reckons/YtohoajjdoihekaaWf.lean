/-
  The walk of package word's long division.
-/
import Derived.Test.YtohoajjdoihekaaWa
import Derived.Test.YtohoajjdoihekaaWd
import Derived.Test.YtohoajjdoihekaaEq
import Derived.Test.YtohoajjdoihekaaNum4
set_option linter.unusedVariables false
set_option linter.unusedSimpArgs false
namespace Go.Proofs.Ytohoajjdoihekaa
open Go.RowKit
namespace cin
set_option maxRecDepth 100000 in
set_option maxHeartbeats 2000000 in
theorem divide_zero (a b : Nat) (hb : eqw b 0 = true) (w : World) :
    Calls Try.prog 59 #[wv8 a, wv b] w fun e w' => e = .returned (.tuple #[wv8 0, wv 0]) ∧ Below w.heap.size w w' := by
  have he := eq_zero b
  rw [hb] at he
  go_enter Try.func59, Try.ntmps59
  go_wp2
  go_region
  all_goals go_wp2
  all_goals (refine bodyPost_ret (v := .tuple #[wv8 0, wv 0]) (by simp [results, Try.results59, go_sem, limb_zero]) rfl ⟨rfl, ?_⟩; exact Below.drew (bal (bal (bal (bal (Below.refl _ _) _) _) _) _))
theorem row_keep4 {w : World} {b c : Nat} {t : TypeId} {n : Nat} {f : Nat → Value} (h : w.rowIs b t n f) (hne : b ≠ c) (v0 v1 v2 v3 : Value) :
    ((((w.setCell ⟨c, 0, none⟩ v0).setCell ⟨c, 1, none⟩ v1).setCell ⟨c, 2, none⟩ v2).setCell ⟨c, 3, none⟩ v3).rowIs b t n f :=
  (((h.setOther hne _).setOther hne _).setOther hne _).setOther hne _
theorem row_put4 {w : World} {b : Nat} {t : TypeId} {g : Nat → Value} (h : w.rowIs b t 4 g) (f : Nat → Int) {x0 x1 x2 x3 : Int} (h0 : x0 = f 0) (h1 : x1 = f 1) (h2 : x2 = f 2) (h3 : x3 = f 3) :
    ((((w.setCell ⟨b, 0, none⟩ (.int .u64 x0)).setCell ⟨b, 1, none⟩ (.int .u64 x1)).setCell ⟨b, 2, none⟩ (.int .u64 x2)).setCell ⟨b, 3, none⟩ (.int .u64 x3)).rowIs b t 4 (u64s f) := by
  subst h0 h1 h2 h3
  refine (row_set4 h _ _ _ _).congr fun i hi => ?_
  rcases k4 hi with rfl | rfl | rfl | rfl <;> rfl
theorem row_keep8 {w : World} {b c : Nat} {t : TypeId} {n : Nat} {f : Nat → Value} (h : w.rowIs b t n f) (hne : b ≠ c) (v0 v1 v2 v3 v4 v5 v6 v7 : Value) :
    ((((((((w.setCell ⟨c, 0, none⟩ v0).setCell ⟨c, 1, none⟩ v1).setCell ⟨c, 2, none⟩ v2).setCell ⟨c, 3, none⟩ v3).setCell ⟨c, 4, none⟩ v4).setCell ⟨c, 5, none⟩ v5).setCell ⟨c, 6, none⟩ v6).setCell ⟨c, 7, none⟩ v7).rowIs b t n f :=
  (((((((h.setOther hne _).setOther hne _).setOther hne _).setOther hne _).setOther hne _).setOther hne _).setOther hne _).setOther hne _
theorem row_put8 {w : World} {b : Nat} {t : TypeId} {g : Nat → Value} (h : w.rowIs b t 8 g) (f : Nat → Int) :
    ((((((((w.setCell ⟨b, 0, none⟩ (.int .u64 (f 0))).setCell ⟨b, 1, none⟩ (.int .u64 (f 1))).setCell ⟨b, 2, none⟩ (.int .u64 (f 2))).setCell ⟨b, 3, none⟩ (.int .u64 (f 3))).setCell ⟨b, 4, none⟩ (.int .u64 (f 4))).setCell ⟨b, 5, none⟩ (.int .u64 (f 5))).setCell ⟨b, 6, none⟩ (.int .u64 (f 6))).setCell ⟨b, 7, none⟩ (.int .u64 (f 7))).rowIs b t 8 (u64s f) := by
  refine (row_set8 h _ _ _ _ _ _ _ _).congr fun i hi => ?_
  rcases k8 hi with rfl | rfl | rfl | rfl | rfl | rfl | rfl | rfl <;> rfl
theorem below_put8 {w w' : World} (h : Below w.heap.size w w') {c : Nat} (hc : w.heap.size ≤ c) (v0 v1 v2 v3 v4 v5 v6 v7 : Value) :
    Below w.heap.size w ((((((((w'.setCell ⟨c, 0, none⟩ v0).setCell ⟨c, 1, none⟩ v1).setCell ⟨c, 2, none⟩ v2).setCell ⟨c, 3, none⟩ v3).setCell ⟨c, 4, none⟩ v4).setCell ⟨c, 5, none⟩ v5).setCell ⟨c, 6, none⟩ v6).setCell ⟨c, 7, none⟩ v7) :=
  (((((((h.setCell hc _).setCell hc _).setCell hc _).setCell hc _).setCell hc _).setCell hc _).setCell hc _).setCell hc _
theorem below_put4 {w w' : World} (h : Below w.heap.size w w') {c : Nat} (hc : w.heap.size ≤ c) (v0 v1 v2 v3 : Value) :
    Below w.heap.size w ((((w'.setCell ⟨c, 0, none⟩ v0).setCell ⟨c, 1, none⟩ v1).setCell ⟨c, 2, none⟩ v2).setCell ⟨c, 3, none⟩ v3) :=
  (((h.setCell hc _).setCell hc _).setCell hc _).setCell hc _
theorem div_rel {w W : World} {a b i Q R' : Nat} (hi : i ≤ 512) (hra : W.rowIs w.heap.size 53 8 (u64s (limb a))) (hrb : W.rowIs (w.heap.size + 1) 24 4 (u64s (limb b)))
    (hrq : W.rowIs (w.heap.size + 1 + 1) 53 8 (u64s (limb Q))) (hrr : W.rowIs (w.heap.size + 1 + 1 + 1) 24 4 (u64s (limb R'))) (hbel : Below w.heap.size w W) (h : Rk a b i = R' ∧ Qk a b i = Q) :
    ∃ k : Nat, k ≤ 512 ∧ Value.int .i64 ((i : Int) - 1) = .int .i64 ((k : Int) - 1) ∧ W.rowIs w.heap.size 53 8 (u64s (limb a)) ∧ W.rowIs (w.heap.size + 1) 24 4 (u64s (limb b)) ∧
      W.rowIs (w.heap.size + 1 + 1) 53 8 (u64s (limb (Qk a b k))) ∧ W.rowIs (w.heap.size + 1 + 1 + 1) 24 4 (u64s (limb (Rk a b k))) ∧ Below w.heap.size w W := by
  obtain ⟨rfl, rfl⟩ := h
  exact ⟨i, hi, rfl, hra, hrb, hrq, hrr, hbel⟩
theorem dk_eq {a b i R d : Nat} (hd : d = 2 * R + bitN a i) (hR : Rk a b (i + 1) = R) : dk a b i = d := by unfold dk; rw [hd, hR]
theorem div_lo' {a b i R d : Nat} (hb : b ≠ 0) (hd : d = 2 * R + bitN a i) (hR : Rk a b (i + 1) = R) (h : d < b) : Rk a b i = d ∧ Qk a b i = Qk a b (i + 1) := by
  have e := dk_eq hd hR
  have := div_lo a b i hb (by rw [e]; exact h)
  rwa [e] at this
theorem div_hi' {a b i R d : Nat} (hb : b ≠ 0) (hd : d = 2 * R + bitN a i) (hR : Rk a b (i + 1) = R) (h : ¬ d < b) : Rk a b i = d - b ∧ Qk a b i = Qk a b (i + 1) + 2 ^ i := by
  have e := dk_eq hd hR
  have := div_hi a b i hb (by rw [e]; exact h)
  rwa [e] at this
theorem wrap_pow (e : Nat) (h : e < 64) : IntKind.u64.wrap (2 ^ e) = ((2 ^ e : Nat) : Int) := by
  have hp : 2 ^ e < 2 ^ 64 := Nat.pow_lt_pow_right (by omega) h
  rw [IntKind.wrap_u64]
  have e1 : (2 : Int) ^ e = ((2 ^ e : Nat) : Int) := by rw [Int.natCast_pow]; rfl
  rw [e1]
  generalize 2 ^ e = p at *
  omega
theorem row_orbit {w : World} {b : Nat} {t : TypeId} {n Q i : Nat} (h : w.rowIs b t n (u64s (limb Q))) (hq : Q % 2 ^ (i + 1) = 0) :
    (w.setCell ⟨b, i / 64, none⟩ (.int .u64 (bits .or .u64 (limb Q (i / 64)) (IntKind.u64.wrap (2 ^ (i % 64)))))).rowIs b t n (u64s (limb (Q + 2 ^ i))) := by
  refine (h.set (i / 64) _).congr fun j _ => ?_
  have hp : 2 ^ (i % 64) < 2 ^ 64 := Nat.pow_lt_pow_right (by omega) (by omega)
  have e := q_limb Q i j hq
  rw [wrap_pow _ (by omega), limb_eq, bits_or_u64_nat _ _ (limbN_lt _ _) hp]
  simp only [u64s]
  by_cases hj : j = i / 64
  · rw [if_pos hj, limb_eq, e, if_pos hj, hj]
  · rw [if_neg hj, limb_eq, limb_eq, e, if_neg hj]
theorem carryAdd_ex (a b : Nat) (w : World) :
    Calls Try.prog 55 #[wv a, wv b] w fun e w' => ∃ s c : Nat, Hid (s = a + b) ∧ Hid (c = cy a b 4) ∧ e = .returned (.tuple #[wv s, .int .u64 (c : Int)]) ∧ Below w.heap.size w w' :=
  (carryAdd_any a b w).mono fun _ _ h => ⟨_, _, rfl, rfl, h.1, h.2⟩
theorem borrowSub_ex (a b : Nat) (w : World) :
    Calls Try.prog 58 #[wv a, wv b] w fun e w' => ∃ s c : Nat, Hid (s = subw a b) ∧ Hid (c = bw a b 4) ∧ e = .returned (.tuple #[wv s, .int .u64 (c : Int)]) ∧ Below w.heap.size w w' :=
  (borrowSub_any a b w).mono fun _ _ h => ⟨_, _, rfl, rfl, h.1, h.2⟩
theorem bitAt_N (N n i b : Nat) (t : TypeId) (w : World) (hi : i < 64 * n) (hn : n ≤ 8) (hr : w.rowIs b t n (u64s (limb N))) :
    Calls Try.prog 65 #[.slice (some ⟨b, 0, none⟩) n n, .int .i64 (i : Int)] w fun e w' => e = .returned (.int .u64 (bitN N i : Int)) ∧ w' = w := bitAt_any N n i b t w hi hn hr
set_option maxRecDepth 100000 in
set_option maxHeartbeats 2000000 in
theorem divide_any (a b : Nat) (ha : a < 2 ^ (64 * 8)) (hb : b < M) (hb0 : b ≠ 0) (w : World) :
    Calls Try.prog 59 #[wv8 a, wv b] w fun e w' => e = .returned (.tuple #[wv8 (a / b), wv (a % b)]) ∧ Below w.heap.size w w' := by
  have he := eq_zero b
  rw [eqw_false hb (by unfold M; omega) hb0] at he
  have HB : Hid (b < M) := hb
  have HB0 : Hid (b ≠ 0) := hb0
  have HA : Hid (a < 2 ^ (64 * 8)) := ha
  clear hb hb0 ha
  go_enter Try.func59, Try.ntmps59
  go_wp2_with fail
  refine (bitLength_any a 8 w.heap.size 53 _ (by omega) HA.out ?_).mono ?_
  · exact row_lit8 (limb a) rfl rfl rfl rfl rfl rfl rfl rfl rfl |>.alloc _ |>.alloc _ |>.alloc _
  rintro e w' ⟨L, hL, hLa, rfl, rfl⟩
  have HL : Hid (a < 2 ^ L) := hLa
  clear hLa he
  go_wp2
  go_loopw [6] (fun t6 wr => ∃ k : Nat, k ≤ 512 ∧ t6 = .int .i64 ((k : Int) - 1) ∧ wr.rowIs w.heap.size 53 8 (u64s (limb a)) ∧ wr.rowIs (w.heap.size + 1) 24 4 (u64s (limb b)) ∧
      wr.rowIs (w.heap.size + 1 + 1) 53 8 (u64s (limb (Qk a b k))) ∧ wr.rowIs (w.heap.size + 1 + 1 + 1) 24 4 (u64s (limb (Rk a b k))) ∧ Below w.heap.size w wr)
     (fun t6 _ => (intOf t6 + 1).toNat)
  case atStart =>
    refine ⟨L, by omega, by go_num, ?_, ?_, ?_, ?_, ?_⟩
    · exact row_lit8 (limb a) rfl rfl rfl rfl rfl rfl rfl rfl rfl |>.alloc _ |>.alloc _ |>.alloc _
    · exact row_lit4 (limb b) (by simp) rfl rfl rfl rfl |>.alloc _ |>.alloc _
    · rw [Qk_top a b L HL.out]
      exact row_lit8 (limb 0) (by simp) (limb_zero _).symm (limb_zero _).symm (limb_zero _).symm (limb_zero _).symm (limb_zero _).symm (limb_zero _).symm (limb_zero _).symm (limb_zero _).symm |>.alloc _
    · rw [Rk_top a b L HL.out]
      exact row_lit4 (limb 0) (by simp) (limb_zero _).symm (limb_zero _).symm (limb_zero _).symm (limb_zero _).symm
    · exact bal (bal (bal (bal (Below.refl _ _) _) _) _) _
  case round =>
    clear HL hL
    obtain ⟨k, hk, rfl, hra, hrb, hrq, hrr, hbel⟩ := hrel
    rcases Nat.eq_zero_or_pos k with rfl | hpos
    · rw [Qk_zero] at hrq
      rw [Rk_zero] at hrr
      obtain ⟨q, HQ⟩ : ∃ q, Hid (a / b = q) := ⟨_, rfl⟩
      obtain ⟨r, HR⟩ : ∃ r, Hid (a % b = r) := ⟨_, rfl⟩
      rw [HQ.out] at hrq
      rw [HR.out] at hrr
      obtain ⟨r0, r1, r2, r3⟩ := row_cells4 hrr
      obtain ⟨q0, q1, q2, q3, q4, q5, q6, q7⟩ := row_cells8 hrq
      have fr := hrr.frozen
      have fq := hrq.frozen
      go_wp2
      go_region
      all_goals go_wp2
      have hR' := row_put4 (row_keep8 hrr (b := w.heap.size + 1 + 1 + 1) (c := w.heap.size + 1 + 1) (by omega) (.int .u64 (limb q 0)) (.int .u64 (limb q 1)) (.int .u64 (limb q 2)) (.int .u64 (limb q 3)) (.int .u64 (limb q 4)) (.int .u64 (limb q 5)) (.int .u64 (limb q 6)) (.int .u64 (limb q 7))) (limb r) rfl rfl rfl rfl
      have hQ' := row_keep4 (row_put8 hrq (limb q)) (b := w.heap.size + 1 + 1) (c := w.heap.size + 1 + 1 + 1) (by omega) (.int .u64 (limb r 0)) (.int .u64 (limb r 1)) (.int .u64 (limb r 2)) (.int .u64 (limb r 3))
      obtain ⟨s0, s1, s2, s3⟩ := row_cells4 hR'
      obtain ⟨p0, p1, p2, p3, p4, p5, p6, p7⟩ := row_cells8 hQ'
      rw [HQ.out, HR.out]
      refine bodyPost_ret (v := .tuple #[wv8 q, wv r]) (by simp [results, Try.results59, go_sem, s0, s1, s2, s3, p0, p1, p2, p3, p4, p5, p6, p7]) rfl ⟨rfl, ?_⟩
      exact (below_put4 (below_put8 hbel (by omega) _ _ _ _ _ _ _ _) (by omega) _ _ _ _).drew
    · obtain ⟨i, rfl⟩ : ∃ i, k = i + 1 := ⟨k - 1, by omega⟩
      clear hpos
      have ek : ((i + 1 : Nat) : Int) - 1 = (i : Int) := by omega
      rw [ek]
      generalize hR : Rk a b (i + 1) = R at *
      have HR : Hid (Rk a b (i + 1) = R) := hR
      generalize hQ : Qk a b (i + 1) = Q at *
      have HQ : Hid (Qk a b (i + 1) = Q) := hQ
      clear hR hQ
      obtain ⟨r0, r1, r2, r3⟩ := row_cells4 hrr
      go_wp2_with fail
      refine (carryAdd_ex R R _).mono ?_
      rintro e w1 ⟨s, c, HS, HC, rfl, hb1⟩
      replace hra := row_below hra hb1
      replace hrb := row_below hrb hb1
      replace hrq := row_below hrq hb1
      replace hrr := row_below hrr hb1
      replace hbel := bcall hbel hb1
      clear hb1 r0 r1 r2 r3
      obtain ⟨bit, HBT⟩ : ∃ bit, Hid (bit = bitN a i) := ⟨_, rfl⟩
      obtain ⟨d, HD⟩ : ∃ d, Hid (d = 2 * R + bit) := ⟨_, rfl⟩
      have hbl : bit ≤ 1 := by rw [HBT.out]; exact bitN_le a i
      have e0 : bits .or .u64 (limb s 0) (bit : Int) = limb d 0 := by rw [HD.out, HS.out]; exact twice0 R _ hbl
      have e1 : limb s 1 = limb d 1 := by rw [HD.out, HS.out]; exact twice_j R _ 1 hbl (by omega) (by omega)
      have e2 : limb s 2 = limb d 2 := by rw [HD.out, HS.out]; exact twice_j R _ 2 hbl (by omega) (by omega)
      have e3 : limb s 3 = limb d 3 := by rw [HD.out, HS.out]; exact twice_j R _ 3 hbl (by omega) (by omega)
      obtain ⟨b0, b1, b2, b3⟩ := row_cells4 hrb
      have z1 := hrb.lt
      go_wp2
      go_region_with (go_at_call 65; refine (bitAt_N a 8 i w.heap.size 53 _ (by omega) (by omega) ?_).mono ?_; exact (hra.alloc _); rintro e w' ⟨rfl, rfl⟩; rw [← HBT.out])
      all_goals
        go_wp2_with fail
        refine (borrowSub_ex d b _).mono ?_
        rintro e w2 ⟨r, c2, HSB, HC2, rfl, hb2⟩
        have hrt := row_below (row_lit4 (n := w1.heap.size) (limb d) rfl rfl rfl rfl rfl).drew hb2
        have hra2 := row_below (hra.alloc _).drew hb2
        have hrb2 := row_below (hrb.alloc _).drew hb2
        have hrq2 := row_below (hrq.alloc _).drew hb2
        have hrr2 := row_below (hrr.alloc _).drew hb2
        have hbel2 := bcall (bal hbel _).drew hb2
        have z5 : w.heap.size + 1 + 1 + 1 < w1.heap.size := hrr.lt
        clear hb2 hra hrb hrq hrr hbel e0 e1 e2 e3 b0 b1 b2 b3 z1
        have hob := over_below R b bit hbl (by rw [← HR.out]; exact Rk_lt a b _ HB0.out) HB.out
        rw [← HD.out, ← HC.out, ← HC2.out] at hob
        have HOB : Hid (((c : Int) == 0 && (c2 : Int) == 1) = decide (d < b)) := hob
        clear hob
        have HD' : Hid (d = 2 * R + bitN a i) := by rw [← HBT.out]; exact HD
        obtain ⟨t0, t1, t2, t3⟩ := row_cells4 hrt
        obtain ⟨x0, x1, x2, x3⟩ := row_cells4 hrr2
        have fr := hrr2.frozen
        have z2 := hrt.lt
        have z3 := hrr2.lt
        have z4 := hrq2.lt
        by_cases hlt : d < b
        · have g1 : ((c : Int) == 0) = true := by have := HOB.out; simp [hlt] at this; simp [this]
          have g2 : ((c2 : Int) == 1) = true := by have := HOB.out; simp [hlt] at this; simp [this]
          go_wp2
          go_roundw
          case rel =>
            clear t0 t1 t2 t3 x0 x1 x2 x3 fr g1 g2
            exact div_rel (by omega) ((row_keep4 hra2 (by omega) _ _ _ _).alloc _) ((row_keep4 hrb2 (by omega) _ _ _ _).alloc _) ((row_keep4 hrq2 (by omega) _ _ _ _).alloc _) ((row_put4 hrr2 (limb d) rfl rfl rfl rfl).alloc _) (bal (below_put4 hbel2 (by omega) _ _ _ _) _) (by rw [← HQ.out]; exact div_lo' HB0.out HD'.out HR.out hlt)
          case measure => simp [intOf]
        · have cq := hrq2.cell (i := i / 64) (by omega)
          have fq := hrq2.frozen (i / 64)
          simp only [u64s] at cq
          cases ho : ((c : Int) == 0)
          · go_wp2
            go_region
            go_wp2
            go_roundw
            case rel =>
              clear t0 t1 t2 t3 x0 x1 x2 x3 fr cq fq
              exact div_rel (by omega) (((row_keep4 hra2 (by omega) _ _ _ _).setOther (by simp; omega) _).alloc _).drew (((row_keep4 hrb2 (by omega) _ _ _ _).setOther (by simp) _).alloc _).drew ((row_orbit (row_keep4 hrq2 (by omega) _ _ _ _) (by rw [← HQ.out]; exact Qk_dvd a b (i + 1))).alloc _).drew (((row_put4 hrr2 (limb (d - b)) (by rw [HSB.out]; exact sub_limbs d b 0 HB.out hlt (by omega)) (by rw [HSB.out]; exact sub_limbs d b 1 HB.out hlt (by omega)) (by rw [HSB.out]; exact sub_limbs d b 2 HB.out hlt (by omega)) (by rw [HSB.out]; exact sub_limbs d b 3 HB.out hlt (by omega))).setOther (by simp) _).alloc _).drew (bal ((below_put4 hbel2 (by omega) _ _ _ _).setCell (by simp; omega) _) _).drew (by rw [← HQ.out]; exact div_hi' HB0.out HD'.out HR.out hlt)
            case measure => simp [intOf]
          · have g2 : ((c2 : Int) == 1) = false := by have := HOB.out; rw [ho] at this; simpa [hlt] using this
            go_wp2
            go_region
            go_wp2
            go_roundw
            case rel =>
              clear t0 t1 t2 t3 x0 x1 x2 x3 fr cq fq
              exact div_rel (by omega) (((row_keep4 hra2 (by omega) _ _ _ _).setOther (by simp; omega) _).alloc _).drew (((row_keep4 hrb2 (by omega) _ _ _ _).setOther (by simp) _).alloc _).drew ((row_orbit (row_keep4 hrq2 (by omega) _ _ _ _) (by rw [← HQ.out]; exact Qk_dvd a b (i + 1))).alloc _).drew (((row_put4 hrr2 (limb (d - b)) (by rw [HSB.out]; exact sub_limbs d b 0 HB.out hlt (by omega)) (by rw [HSB.out]; exact sub_limbs d b 1 HB.out hlt (by omega)) (by rw [HSB.out]; exact sub_limbs d b 2 HB.out hlt (by omega)) (by rw [HSB.out]; exact sub_limbs d b 3 HB.out hlt (by omega))).setOther (by simp) _).alloc _).drew (bal ((below_put4 hbel2 (by omega) _ _ _ _).setCell (by simp; omega) _) _).drew (by rw [← HQ.out]; exact div_hi' HB0.out HD'.out HR.out hlt)
            case measure => simp [intOf]
end cin
end Go.Proofs.Ytohoajjdoihekaa
