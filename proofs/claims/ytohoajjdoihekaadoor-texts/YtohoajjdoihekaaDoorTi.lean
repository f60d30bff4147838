/-
  Numbers in texts, the document's way: the walk.
-/
import Derived.Test.YtohoajjdoihekaaDoorTh
import Derived.Test.YtohoajjdoihekaaDoorRe
set_option linter.unusedVariables false
set_option linter.unusedSimpArgs false
namespace Go.Proofs.YtohoajjdoihekaaDoor
open Go.RowKit
namespace cin
set_option maxRecDepth 100000
theorem p4 {i : Nat} (h : i < 4) : i = 0 ∨ i = 1 ∨ i = 2 ∨ i = 3 := by omega
theorem len4 {vs : List Value} (h : vs.length = 4) : ∃ v0 v1 v2 v3 : Value, vs = [v0, v1, v2, v3] := by
  match vs, h with
  | [v0, v1, v2, v3], _ => exact ⟨v0, v1, v2, v3, rfl⟩
/-- the digits, and their base -/
def nt (s : ByteArray) : ByteArray := if decide (2 < s.size) && ((s.extract 0 2).toList == x0.toList) then s.extract 2 s.size else s
def nb (s : ByteArray) : Nat := if decide (2 < s.size) && ((s.extract 0 2).toList == x0.toList) then 16 else 10
/-- a digit, or -1 -/
def dgi (c b : Nat) : Int := if dgt c < b then (dgt c : Int) else -1
/-- are there bits from 256 on, below k? -/
def hib (P k : Nat) : Bool := decide (M ≤ P % 2 ^ k)
theorem hib0 (P : Nat) : hib P 256 = false := by
  unfold hib
  exact decide_eq_false (Nat.not_le_of_lt (Nat.mod_lt P (Nat.two_pow_pos 256)))
theorem hib_step (P k : Nat) (hk : 256 ≤ k) : hib P (k + 1) = (hib P k || P.testBit k) := by
  unfold hib
  rw [mod_succ2]
  have h1 : M ≤ 2 ^ k := M_le_pow k hk
  cases P.testBit k
  · simp
  · rw [if_pos rfl, Bool.or_true]
    exact decide_eq_true (by omega)
theorem hib_end (P k : Nat) (h : P < 2 ^ k) : hib P k = decide (M ≤ P) := by unfold hib; rw [Nat.mod_eq_of_lt h]
theorem hib_sq (P a b n m : Nat) (hm : m = n + n) (hP : P = a * b) (ha : a < 2 ^ n) (hb : b < 2 ^ n) : hib P m = decide (M ≤ P) := by
  refine hib_end P m ?_
  rw [hm, hP, Nat.pow_add]
  exact Nat.mul_lt_mul'' ha hb
theorem hi_sq (P a b n m : Nat) (hm : m = n + n) (hP : P = a * b) (ha : a < 2 ^ n) (hb : b < 2 ^ n) : Hid (∀ j, m ≤ j → P.testBit j = false) := fun j hj => by
  refine tb_high (L := n + n) ?_ (by omega)
  rw [hP, Nat.pow_add]
  exact Nat.mul_lt_mul'' ha hb
theorem hib512 (P a b : Nat) (hP : P = a * b) (ha : a < M) (hb : b < M) : hib P 512 = decide (M ≤ P) := by
  exact hib_sq P a b 256 512 rfl hP (lt256 ha).out (lt256 hb).out
theorem big_num (n b d : Nat) (hn : n < M) (hb : b < 100) (hd : d < 100) (g : Bool) : ((g || decide (M ≤ n * b)) || ltw (fadd (n * b % M) (d % M)) d) = (g || decide (M ≤ n * b + d)) := by
  rw [Bool.or_assoc]
  congr 1
  unfold ltw fadd
  generalize n * b = P
  unfold M at *
  rw [Bool.eq_iff_iff]
  simp only [Bool.or_eq_true, decide_eq_true_eq]
  omega
theorem dg_num (c b : Nat) (d1 d2 : Int) (q1 q2 : Bool) (hb : b = 10 ∨ b = 16) (h1 : q1 = decide (48 ≤ c ∧ c ≤ 57)) (h2 : q2 = decide (b = 16 ∧ 97 ≤ c ∧ c ≤ 102)) (h3 : d1 = if q1 then (c : Int) - 48 else -1) (h4 : d2 = if q2 then 10 + ((c : Int) - 97) else d1) : d2 = if dgt c < b then (dgt c : Int) else -1 := by
  subst h1 h2 h3 h4
  unfold dgt
  simp only [decide_eq_true_eq]
  split <;> split <;> (try split) <;> (try split) <;> omega
/-- the result's place, the number's -/
structure RN (w : World) (z b n : Nat) (x : World) : Prop where
  rz : x.rowIs z 58 4 (u64s fun _ => 0)
  rn : x.rowIs b 58 4 (u64s (limb n))
  hz : w.heap.size ≤ z
  hzb : z < b
  be : Below w.heap.size w x
theorem RN.call {w : World} {z b n : Nat} {x y : World} (h : RN w z b n x) (hb : Below x.heap.size x y) : RN w z b n y := ⟨row_below h.rz hb, row_below h.rn hb, h.hz, h.hzb, bcall h.be hb⟩
theorem RN.drew {w : World} {z b n : Nat} {x : World} (h : RN w z b n x) : RN w z b n x.drew := ⟨h.rz, h.rn, h.hz, h.hzb, h.be.drew⟩
theorem RN.put {w : World} {z b n : Nat} {x : World} (h : RN w z b n x) (m : Nat) : RN w z b m ((((x.setCell ⟨b, 0, none⟩ (.int .u64 (limb m 0))).setCell ⟨b, 1, none⟩ (.int .u64 (limb m 1))).setCell ⟨b, 2, none⟩ (.int .u64 (limb m 2))).setCell ⟨b, 3, none⟩ (.int .u64 (limb m 3))) := by
  have h1 := h.hz
  have h2 := h.hzb
  exact ⟨(((h.rz.setOther (by simp; omega) _).setOther (by simp; omega) _).setOther (by simp; omega) _).setOther (by simp; omega) _, row_put4 h.rn (limb m) rfl rfl rfl rfl, h1, h2, below_put4 h.be (by omega) _ _ _ _⟩
/-- what number gives: the word, whether it is one, whether it is too great -/
def numO (t : ByteArray) (b : Nat) (e : Ending) : Prop := match num t b with
  | none => ∃ r, e = .returned (.tuple #[wv r, .bool false, .bool false])
  | some (n, g) => e = .returned (.tuple #[wv n, .bool (decide (t.size ≠ 0)), .bool g])
set_option maxRecDepth 100000 in
set_option maxHeartbeats 8000000 in
theorem rnumber_any (s : ByteArray) (hs : s.size ≤ 2000) (w : World) : Calls Tryd.prog 19 #[.string s] w fun e w' => numO (nt s) (nb s) e ∧ Below w.heap.size w w' := by
  obtain ⟨t, Ht⟩ : ∃ t, Hid (t = nt s) := ⟨_, rfl⟩
  obtain ⟨b, Hb⟩ : ∃ b, Hid (b = nb s) := ⟨_, rfl⟩
  have hts : t.size ≤ 2000 := by
    rw [Ht.out]; unfold nt; split
    · rw [ByteArray.size_extract]; omega
    · exact hs
  have HBL : Hid (b = 10 ∨ b = 16) := by show _ ∨ _; rw [Hb.out]; unfold nb; split <;> omega
  have hrz := row_lit4 (w := w) (n := w.heap.size) (t := 58) (fun _ => 0) rfl rfl rfl rfl rfl
  have hbel := bal (Below.refl _ w) (.cells #[.int .u64 0, .int .u64 0, .int .u64 0, .int .u64 0] 58)
  go_enter Tryd.func19, Tryd.ntmps19
  obtain ⟨q, Hq⟩ : ∃ q, Hid (q = (decide (2 < s.size) && ((s.extract 0 2).toList == [48, 120]))) := ⟨_, rfl⟩
  have hx0 : x0.toList = [48, 120] := by rw [Go.ByteArray.toList_eq]; rfl
  have HT : Hid (t = if q then s.extract 2 s.size else s) := by show _ = _; rw [Ht.out, Hq.out, ← hx0]; rfl
  have HB : Hid (b = if q then 16 else 10) := by show _ = _; rw [Hb.out, Hq.out, ← hx0]; rfl
  have H2 : Hid (q = true → 2 ≤ s.size) := fun h => by
    rw [Hq.out] at h
    have := of_decide_eq_true (Bool.and_eq_true_iff.1 h).1
    omega
  clear hx0
  go_upto_region 2 with fail
  go_cut [20] (fun t20 wx => t20 = .bool q ∧ wx.rowIs w.heap.size 58 4 (u64s fun _ => 0) ∧ Below w.heap.size w wx)
  case first =>
    by_cases h2 : 2 < s.size
    · have E : Hid (q = ((s.extract 0 2).toList == [48, 120])) := by show _ = _; rw [Hq.out, decide_eq_true h2, Bool.true_and]
      go_wp2_with fail
      go_meet
      case rel => exact ⟨by rw [E.out], hrz, hbel⟩
    · have E : Hid (q = false) := by show _ = _; rw [Hq.out, decide_eq_false h2, Bool.false_and]
      go_wp2_with fail
      go_meet
      case rel => exact ⟨by rw [E.out], hrz, hbel⟩
  case rest =>
    clear hrz hbel
    obtain ⟨rfl, hrz, hbel⟩ := hcut
    go_upto_if 20 with fail
    go_cut [0, 5] (fun t0 t5 wx => t0 = .string t ∧ t5 = .int .i64 (b : Int) ∧ wx.rowIs w.heap.size 58 4 (u64s fun _ => 0) ∧ Below w.heap.size w wx)
    case first =>
      cases q
      · have E1 : Hid (t = s) := HT.out
        have E2 : Hid (b = 10) := HB.out
        clear HT HB H2
        go_wp2_with fail
        go_meet
        case rel => exact ⟨by rw [E1.out], by rw [E2.out]; rfl, hrz, hbel⟩
      · have E1 : Hid (t = s.extract 2 s.size) := HT.out
        have E2 : Hid (b = 16) := HB.out
        have h2 := H2.out rfl
        clear HT HB H2
        go_wp2_with fail
        go_meet
        case rel => exact ⟨by rw [E1.out], by rw [E2.out]; rfl, hrz, hbel⟩
    case rest =>
      clear hrz hbel HT HB H2 Hq
      rename_i wd _
      obtain ⟨rfl, rfl, hrz, hbel⟩ := hcut
      go_wp2_with fail
      refine (rsmall_any 0 (by omega) _).mono ?_
      rintro e w1 ⟨z, HZ, rfl, hb⟩
      replace hrz := row_below hrz hb
      replace hbel := bcall hbel hb
      clear hb
      have hs0 : RN w w.heap.size w1.heap.size z (w1.alloc (.cells #[.int .u64 (limb z 0), .int .u64 (limb z 1), .int .u64 (limb z 2), .int .u64 (limb z 3)] 58)) := ⟨hrz.alloc _, row_lit4 (limb z) rfl rfl rfl rfl rfl, Nat.le_refl _, hrz.lt, bal hbel _⟩
      clear hrz hbel
      go_wp2
      generalize w1.heap.size = bb at *
      go_loopw [7, 8] (fun t7 t8 wr => ∃ (p f n : Nat) (g : Bool), t8 = .int .i64 p ∧ t7 = .bool g ∧ RN w w.heap.size bb n wr ∧ p ≤ t.size ∧ t.size ≤ p + f ∧ Hid (n < M) ∧ Hid (numF t b f p n g = num t b)) (fun _ t8 _ => t.size - (intOf t8).toNat)
      case atStart => exact ⟨0, t.size, z, false, rfl, rfl, hs0, by omega, by omega, by show _ < _; rw [HZ.out]; unfold M; omega, by show _ = _; rw [HZ.out]; rfl⟩
      case round =>
        clear hs0
        obtain ⟨p, f, n, g, rfl, rfl, hs2, hps, hf, HM, HC⟩ := hrel
        by_cases hp : p < t.size
        · have hx := byt_at t p hp
          have hl := byt_lt t p
          obtain ⟨c, HCB⟩ : ∃ c, Hid (byt t p = c) := ⟨_, rfl⟩
          rw [HCB.out] at hx hl
          obtain ⟨q1, HQ1⟩ : ∃ q, Hid (q = decide (48 ≤ c ∧ c ≤ 57)) := ⟨_, rfl⟩
          obtain ⟨q2, HQ2⟩ : ∃ q, Hid (q = decide (b = 16 ∧ 97 ≤ c ∧ c ≤ 102)) := ⟨_, rfl⟩
          obtain ⟨d1, HD1⟩ : ∃ d : Int, Hid (d = if q1 then (c : Int) - 48 else -1) := ⟨_, rfl⟩
          obtain ⟨d2, HD2⟩ : ∃ d : Int, Hid (d = if q2 then 10 + ((c : Int) - 97) else d1) := ⟨_, rfl⟩
          go_upto_region 12 with fail
          go_cut [38] (fun t38 wx => t38 = .bool q1 ∧ RN w w.heap.size bb n wx)
          case first =>
            rcases (by omega : c < 48 ∨ (48 ≤ c ∧ c ≤ 57) ∨ 57 < c) with h | h | h
            · have E : Hid (q1 = false) := by show _ = _; rw [HQ1.out]; exact decide_eq_false (by omega)
              have e1 : decide (48 ≤ (c : Int)) = false := by simp; omega
              clear h
              go_wp2_with fail
              go_meet
              case rel => exact ⟨by rw [E.out], hs2⟩
            · have E : Hid (q1 = true) := by show _ = _; rw [HQ1.out]; exact decide_eq_true h
              have e1 : decide (48 ≤ (c : Int)) = true := by simp; omega
              have e2 : decide ((c : Int) ≤ 57) = true := by simp; omega
              clear h
              go_wp2_with fail
              go_meet
              case rel => exact ⟨by rw [E.out], hs2⟩
            · have E : Hid (q1 = false) := by show _ = _; rw [HQ1.out]; exact decide_eq_false (by omega)
              have e1 : decide (48 ≤ (c : Int)) = true := by simp; omega
              have e2 : decide ((c : Int) ≤ 57) = false := by simp; omega
              clear h
              go_wp2_with fail
              go_meet
              case rel => exact ⟨by rw [E.out], hs2⟩
          case rest =>
            clear hs2
            obtain ⟨rfl, hs2⟩ := hcut
            go_upto_if 38 with fail
            go_cut [9] (fun t9 wx => t9 = .int .i64 d1 ∧ RN w w.heap.size bb n wx)
            case first =>
              cases q1
              · have E : Hid (d1 = -1) := HD1.out
                clear HD1
                go_wp2_with fail
                go_meet
                case rel => exact ⟨by rw [E.out], hs2⟩
              · have E : Hid (d1 = (c : Int) - 48) := HD1.out
                have hc := of_decide_eq_true HQ1.out.symm
                clear HD1
                go_wp2_with fail
                go_meet
                case rel => exact ⟨by rw [E.out], hs2⟩
            case rest =>
              clear hs2
              obtain ⟨rfl, hs2⟩ := hcut
              go_upto_region 14 with fail
              go_cut [51] (fun t51 wx => t51 = .bool q2 ∧ RN w w.heap.size bb n wx)
              case first =>
                rcases HBL.out with hb | hb
                · have E : Hid (q2 = false) := by show _ = _; rw [HQ2.out]; exact decide_eq_false (by omega)
                  have e0 : ((b : Int) == 16) = false := by simp; omega
                  clear hb
                  go_wp2_with fail
                  go_meet
                  case rel => exact ⟨by rw [E.out], hs2⟩
                · have e0 : ((b : Int) == 16) = true := by simp; omega
                  rcases (by omega : c < 97 ∨ (97 ≤ c ∧ c ≤ 102) ∨ 102 < c) with h | h | h
                  · have E : Hid (q2 = false) := by show _ = _; rw [HQ2.out]; exact decide_eq_false (by omega)
                    have e1 : decide (97 ≤ (c : Int)) = false := by simp; omega
                    clear h hb
                    go_wp2_with fail
                    go_meet
                    case rel => exact ⟨by rw [E.out], hs2⟩
                  · have E : Hid (q2 = true) := by show _ = _; rw [HQ2.out]; exact decide_eq_true ⟨hb, h⟩
                    have e1 : decide (97 ≤ (c : Int)) = true := by simp; omega
                    have e2 : decide ((c : Int) ≤ 102) = true := by simp; omega
                    clear h hb
                    go_wp2_with fail
                    go_meet
                    case rel => exact ⟨by rw [E.out], hs2⟩
                  · have E : Hid (q2 = false) := by show _ = _; rw [HQ2.out]; exact decide_eq_false (by omega)
                    have e1 : decide (97 ≤ (c : Int)) = true := by simp; omega
                    have e2 : decide ((c : Int) ≤ 102) = false := by simp; omega
                    clear h hb
                    go_wp2_with fail
                    go_meet
                    case rel => exact ⟨by rw [E.out], hs2⟩
              case rest =>
                clear hs2
                obtain ⟨rfl, hs2⟩ := hcut
                go_upto_if 51 with fail
                go_cut [9] (fun t9 wx => t9 = .int .i64 d2 ∧ RN w w.heap.size bb n wx)
                case first =>
                  cases q2
                  · have E : Hid (d2 = d1) := HD2.out
                    clear HD2
                    go_wp2_with fail
                    go_meet
                    case rel => exact ⟨by rw [E.out], hs2⟩
                  · have E : Hid (d2 = 10 + ((c : Int) - 97)) := HD2.out
                    have hc := (of_decide_eq_true HQ2.out.symm).2
                    clear HD2
                    go_wp2_with fail
                    go_meet
                    case rel => exact ⟨by rw [E.out], hs2⟩
                case rest =>
                  clear hs2
                  obtain ⟨rfl, hs2⟩ := hcut
                  have hdd := dg_num c b d1 d2 q1 q2 HBL.out HQ1.out HQ2.out HD1.out HD2.out
                  clear HD1 HD2 HQ1 HQ2
                  by_cases hdb : dgt c < b
                  · obtain ⟨d, Hd⟩ : ∃ d, Hid (d = dgt c) := ⟨_, rfl⟩
                    rw [← Hd.out] at hdb
                    obtain rfl : d2 = (d : Int) := by rw [hdd, Hd.out, if_pos (by rw [← Hd.out]; exact hdb)]
                    clear hdd
                    have HS : Hid (numF t b (f - 1) (p + 1) ((n * b + d) % M) (g || decide (M ≤ n * b + d)) = num t b) := by
                      have h := num_step hp (by rw [HCB.out, ← Hd.out]; exact hdb) (by omega) HC.out
                      rw [HCB.out, ← Hd.out] at h
                      exact h
                    have hb100 : b ≤ 16 := by rcases HBL.out with h | h <;> omega
                    have HSM : Hid (b ≤ 16 ∧ d < 16) := ⟨hb100, by omega⟩
                    have hdn : decide ((d : Int) < 0) = false := decide_eq_false (by omega)
                    obtain ⟨bw, HBW⟩ : ∃ m, Hid (m = b) := ⟨b, rfl⟩
                    have HBM : Hid (bw < M) := by show _ < _; rw [HBW.out]; unfold M; omega
                    clear hb100
                    go_wp2
                    refine wp_region_pred (by kernel_rfl) (RN w w.heap.size bb n) (fun _ x x' => Below x.heap.size x x') [(some 59, fun v _ => v = wv n), (some 60, fun v _ => v = .int .i64 (b : Int)), (some 61, fun v _ => v = wv bw), (some 62, fun v x => SliceOf 512 (n * bw) v x), (some 11, fun v x => SliceOf 512 (n * bw) v x)] (by kernel_rfl) rfl (by kernel_rfl) (by kernel_rfl) hs2.drew [(6, .pointer (some ⟨bb, 0, none⟩)), (5, .int .i64 (b : Int))] (by intro p hp; simp only [List.mem_cons, List.not_mem_nil, or_false] at hp; rcases hp with rfl | rfl <;> rfl) (by kernel_rfl) ?_ ?_ ?_
                    · as_aux_lemma =>
                      intro i j d T h hij v x x' hs hr ht
                      have hj : j < 5 := (List.getElem?_eq_some_iff.1 h).1
                      rcases p5 hj with rfl | rfl | rfl | rfl | rfl <;> obtain ⟨rfl, rfl⟩ := Prod.mk.inj (Option.some.inj (show some (_, _) = some (d, T) from h)) <;> (first | exact ht | exact ht.below hr)
                    · as_aux_lemma =>
                      intro i o d T ho ht s x hs hb hdep
                      have hi : i < 5 := (Array.getElem?_eq_some_iff.1 ho).1
                      rcases p5 hi with rfl | rfl | rfl | rfl | rfl
                      · obtain rfl := Option.some.inj (show some _ = some o from ho)
                        obtain ⟨rfl, rfl⟩ := Prod.mk.inj (Option.some.inj (show some (_, _) = some (d, T) from ht))
                        exact ⟨want_none rfl, fun K hK => st_load 6 59 _ _ (hb _ (List.Mem.head _)) hs.rn (hK _ x hs (Below.refl _ _) (fun h => by cases h) rfl)⟩
                      · obtain rfl := Option.some.inj (show some _ = some o from ho)
                        obtain ⟨rfl, rfl⟩ := Prod.mk.inj (Option.some.inj (show some (_, _) = some (d, T) from ht))
                        exact ⟨want_none rfl, fun K hK => st_move 5 60 _ (hb _ (List.Mem.tail _ (List.Mem.head _))) (hK _ x hs (Below.refl _ _) (fun h => by cases h) rfl)⟩
                      · obtain rfl := Option.some.inj (show some _ = some o from ho)
                        obtain ⟨rfl, rfl⟩ := Prod.mk.inj (Option.some.inj (show some (_, _) = some (d, T) from ht))
                        exact ⟨want_none rfl, fun K hK => st_ret own_Small (ev1 (hdep ⟨1, .data⟩ (by simp) rfl _ _ rfl)) (rsmall_any b (by have := HSM.out; omega) x) HBW (fun x' h1 => hK _ x' (hs.call h1) h1 (fun h => by cases h) rfl)⟩
                      · obtain rfl := Option.some.inj (show some _ = some o from ho)
                        obtain ⟨rfl, rfl⟩ := Prod.mk.inj (Option.some.inj (show some (_, _) = some (d, T) from ht))
                        exact ⟨want_none rfl, fun K hK => st_call own_product (ev2 (hdep ⟨0, .data⟩ (by simp) rfl _ _ rfl) (hdep ⟨2, .data⟩ (by simp) rfl _ _ rfl)) (rproduct_any0 n bw HM HBM x) fun e x' h1 => by obtain ⟨b1, r1, hr1, rfl, _, hrow1, hb1⟩ := h1; exact ⟨_, rfl, hK _ x' (hs.call hb1) hb1 (fun h => by cases h) ⟨b1, r1, 512, hr1, rfl, hrow1⟩⟩⟩
                      · obtain rfl := Option.some.inj (show some _ = some o from ho)
                        obtain ⟨rfl, rfl⟩ := Prod.mk.inj (Option.some.inj (show some (_, _) = some (d, T) from ht))
                        exact ⟨want_none rfl, fun K hK => st_assign 62 11 _ rfl (hK _ x hs (Below.refl _ _) (fun h => by cases h) (hdep ⟨3, .data⟩ (by simp) rfl _ _ rfl))⟩
                    · intro vs x hs hl hT
                      obtain ⟨v0, v1, v2, v3, v4, rfl⟩ := len5 hl
                      have h0 : (fun v _ => v = wv n) v0 x := hT 0 _ _ rfl
                      have h1 : (fun v _ => v = .int .i64 (b : Int)) v1 x := hT 1 _ _ rfl
                      have h2 : (fun v _ => v = wv bw) v2 x := hT 2 _ _ rfl
                      have h3 : (fun v x => SliceOf 512 (n * bw) v x) v3 x := hT 3 _ _ rfl
                      have h4 : (fun v x => SliceOf 512 (n * bw) v x) v4 x := hT 4 _ _ rfl
                      clear hl hT
                      simp only [zipo, fill, List.foldl, Act.put, List.setIfInBounds_toArray, List.set_cons_zero, List.set_cons_succ]
                      obtain ⟨pp, P, cc, HP, rfl, hrowP⟩ := h4
                      clear h0 h1 h2 h3
                      go_wp2
                      go_loopw [7, 12] (fun t7 t12 wq => ∃ k : Nat, 256 ≤ k ∧ k ≤ 512 ∧ t12 = .int .i64 k ∧ t7 = .bool (g || hib P k) ∧ RN w w.heap.size bb n wq ∧ wq.rowIs pp 4 512 (bools P.testBit)) (fun _ t12 _ => 512 - (intOf t12).toNat)
                      case atStart => exact ⟨256, by omega, by omega, rfl, by rw [hib0, Bool.or_false], hs, hrowP⟩
                      case round =>
                        clear hs hrowP
                        obtain ⟨k, hk1, hk2, rfl, rfl, hs, hrowP⟩ := hrel
                        by_cases hk : k < 512
                        · have hdk : decide ((k : Int) < 512) = true := by simp; omega
                          have cp := hrowP.cell hk
                          simp only [bools] at cp
                          have HH : Hid (hib P (k + 1) = (hib P k || P.testBit k)) := hib_step P k hk1
                          generalize P.testBit k = bt at *
                          obtain ⟨v, HV⟩ : ∃ v, Hid (v = (g || hib P k)) := ⟨_, rfl⟩
                          rw [← HV.out]
                          have HX : Hid ((g || hib P (k + 1)) = (v || bt)) := by show _ = _; rw [HH.out, HV.out, Bool.or_assoc]
                          cases v
                          · go_wp2
                            go_roundw
                            case rel => exact ⟨k + 1, by omega, by omega, by go_num, by rw [HX.out] <;> simp, hs, hrowP⟩
                            case measure => simp [intOf]; omega
                          · go_wp2
                            go_roundw
                            case rel => exact ⟨k + 1, by omega, by omega, by go_num, by rw [HX.out] <;> simp, hs, hrowP⟩
                            case measure => simp [intOf]; omega
                        · obtain rfl : k = 512 := by omega
                          obtain ⟨g1, HG1⟩ : ∃ v, Hid (v = (g || hib P 512)) := ⟨_, rfl⟩
                          rw [← HG1.out]
                          have HPH : Hid (∀ j, 512 ≤ j → P.testBit j = false) := hi_sq P n bw 256 512 rfl HP.out (lt256 HM.out).out (lt256 HBM.out).out
                          have HPG : Hid (g1 = (g || decide (M ≤ n * b))) := by show _ = _; rw [HG1.out, hib512 P n bw HP.out HM.out HBM.out, HP.out, HBW.out]
                          go_wp2_with fail
                          refine (wordOf_any P 512 pp cc (by omega) HPH _ hrowP).mono ?_
                          rintro e w2 ⟨rfl, hb⟩
                          replace hs := hs.call hb
                          clear hb hrowP
                          go_wp2_with fail
                          refine (rsmall_any d (by have := HSM.out; omega) _).mono ?_
                          rintro e w3 ⟨dw, HDW, rfl, hb⟩
                          replace hs := hs.call hb
                          clear hb
                          go_wp2_with fail
                          refine (radd_any P dw _).mono ?_
                          rintro e w4 ⟨m, HMM, rfl, hb⟩
                          replace hs := hs.call hb
                          clear hb
                          obtain ⟨c0, c1, c2, c3⟩ := row_cells4 hs.rn
                          have fz := hs.rn.frozen
                          have hs5 := hs.put m
                          obtain ⟨l, HLL⟩ : ∃ l, Hid (l = ltw m dw) := ⟨_, rfl⟩
                          have HM2 : Hid (m < M) := by show _ < _; rw [HMM.out]; exact Nat.mod_lt _ Mpos
                          have HS2 : Hid (numF t b (f - 1) (p + 1) m (g1 || l) = num t b) := by
                            show _ = _
                            have h1 := big_num n b d HM.out (by have := HSM.out; omega) (by have := HSM.out; omega) g
                            rw [← HPG.out] at h1
                            have h2 : m = fadd (n * b % M) (d % M) := by rw [HMM.out, HP.out, HBW.out, HDW.out]
                            have h3 : l = ltw (fadd (n * b % M) (d % M)) d := by rw [HLL.out, h2, HDW.out]
                            have h4 : m = (n * b + d) % M := by rw [h2]; unfold fadd; rw [← Nat.add_mod]
                            rw [h3, h1, h4]
                            exact HS.out
                          clear hs
                          go_wp2
                          refine wp_region_pred (by kernel_rfl) (RN w w.heap.size bb m) (fun _ x x' => Below x.heap.size x x') [(some 79, fun v _ => v = wv m), (some 80, fun v _ => v = .int .i64 (d : Int)), (some 81, fun v _ => v = wv dw), (some 82, fun v _ => v = .bool l)] (by kernel_rfl) rfl (by kernel_rfl) (by kernel_rfl) hs5.drew [(6, .pointer (some ⟨bb, 0, none⟩)), (9, .int .i64 (d : Int))] (by intro p hp; simp only [List.mem_cons, List.not_mem_nil, or_false] at hp; rcases hp with rfl | rfl <;> rfl) (by kernel_rfl) ?_ ?_ ?_
                          · as_aux_lemma =>
                            intro i j d T h hij v x x' hs hr ht
                            have hj : j < 4 := (List.getElem?_eq_some_iff.1 h).1
                            rcases p4 hj with rfl | rfl | rfl | rfl <;> obtain ⟨rfl, rfl⟩ := Prod.mk.inj (Option.some.inj (show some (_, _) = some (d, T) from h)) <;> (first | exact ht | exact ht.below hr)
                          · as_aux_lemma =>
                            intro i o d T ho ht s x hs hb hdep
                            have hi : i < 4 := (Array.getElem?_eq_some_iff.1 ho).1
                            rcases p4 hi with rfl | rfl | rfl | rfl
                            · obtain rfl := Option.some.inj (show some _ = some o from ho)
                              obtain ⟨rfl, rfl⟩ := Prod.mk.inj (Option.some.inj (show some (_, _) = some (d, T) from ht))
                              exact ⟨want_none rfl, fun K hK => st_load 6 79 _ _ (hb _ (List.Mem.head _)) hs.rn (hK _ x hs (Below.refl _ _) (fun h => by cases h) rfl)⟩
                            · obtain rfl := Option.some.inj (show some _ = some o from ho)
                              obtain ⟨rfl, rfl⟩ := Prod.mk.inj (Option.some.inj (show some (_, _) = some (d, T) from ht))
                              exact ⟨want_none rfl, fun K hK => st_move 9 80 _ (hb _ (List.Mem.tail _ (List.Mem.head _))) (hK _ x hs (Below.refl _ _) (fun h => by cases h) rfl)⟩
                            · obtain rfl := Option.some.inj (show some _ = some o from ho)
                              obtain ⟨rfl, rfl⟩ := Prod.mk.inj (Option.some.inj (show some (_, _) = some (d, T) from ht))
                              exact ⟨want_none rfl, fun K hK => st_ret own_Small (ev1 (hdep ⟨1, .data⟩ (by simp) rfl _ _ rfl)) (rsmall_any d (by have := HSM.out; omega) x) HDW (fun x' h1 => hK _ x' (hs.call h1) h1 (fun h => by cases h) rfl)⟩
                            · obtain rfl := Option.some.inj (show some _ = some o from ho)
                              obtain ⟨rfl, rfl⟩ := Prod.mk.inj (Option.some.inj (show some (_, _) = some (d, T) from ht))
                              exact ⟨want_none rfl, fun K hK => st_call own_Less (ev2 (hdep ⟨0, .data⟩ (by simp) rfl _ _ rfl) (hdep ⟨2, .data⟩ (by simp) rfl _ _ rfl)) (rless_any m dw x) fun e x' h1 => by obtain ⟨rfl, hb1⟩ := h1; rw [← HLL.out]; exact ⟨_, rfl, hK _ x' (hs.call hb1) hb1 (fun h => by cases h) rfl⟩⟩
                          · intro vs x hs hl hT
                            obtain ⟨v0, v1, v2, v3, rfl⟩ := len4 hl
                            have h0 : (fun v _ => v = wv m) v0 x := hT 0 _ _ rfl
                            have h1 : (fun v _ => v = .int .i64 (d : Int)) v1 x := hT 1 _ _ rfl
                            have h2 : (fun v _ => v = wv dw) v2 x := hT 2 _ _ rfl
                            have h3 : (fun v _ => v = .bool l) v3 x := hT 3 _ _ rfl
                            clear hl hT
                            simp only [zipo, fill, List.foldl, Act.put, List.setIfInBounds_toArray, List.set_cons_zero, List.set_cons_succ]
                            clear h0 h1 h2
                            subst h3
                            cases l
                            · have E : Hid (numF t b (f - 1) (p + 1) m g1 = num t b) := by have h := HS2.out; rw [Bool.or_false] at h; exact h
                              clear HS2
                              go_wp2
                              go_roundw
                              case rel => exact ⟨p + 1, f - 1, m, g1, by go_num, rfl, hs, by omega, by omega, HM2, E⟩
                              case measure => simp [intOf]; omega
                            · have E : Hid (numF t b (f - 1) (p + 1) m true = num t b) := by have h := HS2.out; rw [Bool.or_true] at h; exact h
                              clear HS2
                              go_wp2
                              go_roundw
                              case rel => exact ⟨p + 1, f - 1, m, true, by go_num, rfl, hs, by omega, by omega, HM2, E⟩
                              case measure => simp [intOf]; omega
                  · obtain rfl : d2 = -1 := by rw [hdd, if_neg hdb]
                    clear hdd
                    have HR : Hid (num t b = none) := num_no hp (by rw [HCB.out]; exact hdb) (by omega) HC.out
                    obtain ⟨c0, c1, c2, c3⟩ := row_cells4 hs2.rz
                    have fz := hs2.rz.frozen
                    obtain ⟨e0, e1, e2, e3⟩ := row_cells4 hs2.rn
                    go_wp2
                    obtain ⟨q0, q1, q2, q3⟩ := row_cells4 (row_put4 hs2.rz (limb n) rfl rfl rfl rfl)
                    refine bodyPost_ret (v := .tuple #[wv n, .bool false, .bool false]) (by simp [results, Tryd.results19, go_sem, q0, q1, q2, q3]) rfl ⟨?_, below_put4 hs2.be (by omega) _ _ _ _⟩
                    rw [← Ht.out, ← Hb.out]
                    unfold numO
                    rw [HR.out]
                    exact ⟨n, rfl⟩
        · have HR : Hid (num t b = some (n, g)) := by show _ = _; rw [← HC.out, numF_end t b f p n g hp]
          have hl : t.toList.isEmpty = decide (t.size = 0) := by
            rw [Go.ByteArray.toList_eq, Bool.eq_iff_iff, decide_eq_true_eq, List.isEmpty_iff, ← List.length_eq_zero_iff]
            exact Iff.rfl
          have HL : Hid ((!t.toList.isEmpty) = decide (t.size ≠ 0)) := by show _ = _; rw [hl]; simp
          clear hl
          obtain ⟨c0, c1, c2, c3⟩ := row_cells4 hs2.rz
          have fz := hs2.rz.frozen
          obtain ⟨d0, d1, d2, d3⟩ := row_cells4 hs2.rn
          go_wp2
          obtain ⟨q0, q1, q2, q3⟩ := row_cells4 (row_put4 hs2.rz (limb n) rfl rfl rfl rfl)
          refine bodyPost_ret (v := .tuple #[wv n, .bool (!t.toList.isEmpty), .bool g]) (by simp [results, Tryd.results19, go_sem, q0, q1, q2, q3]) rfl ⟨?_, below_put4 hs2.be (by omega) _ _ _ _⟩
          rw [← Ht.out, ← Hb.out]
          unfold numO
          rw [HR.out, HL.out]
end cin
end Go.Proofs.YtohoajjdoihekaaDoor
