import Derived.Test.YtohoajjdoihekaaGreatDoorSt3
import Derived.Deep.DeepCutAuto
import Derived.Laws.BytesArg
import Derived.Laws.ShiftsVarLaws
set_option linter.unusedVariables false
set_option linter.unusedSimpArgs false
namespace Go.Proofs.YtohoajjdoihekaaGreatDoor
namespace cin
section
open Go.RowKit
def cym (a b d k : Nat) : Nat := (a % 2 ^ (64 * k) * b + d) / 2 ^ (64 * k)
theorem cym0 (a b d : Nat) : cym a b d 0 = d := by unfold cym; rw [pw0, Nat.mod_one, Nat.zero_mul, Nat.zero_add, Nat.div_one]
theorem cym_step (a b d k : Nat) : limbN a k * b + cym a b d k = cym a b d (k + 1) * 18446744073709551616 + limbN (a * b + d) k := by
 have hq : limbN a k = a / 2 ^ (64 * k) % 18446744073709551616 := rfl
 have hr : limbN (a * b + d) k = (a * b + d) / 2 ^ (64 * k) % 18446744073709551616 := rfl
 have hp : 2 ^ (64 * (k + 1)) = 2 ^ (64 * k) * 18446744073709551616 := by rw [Nat.mul_succ, Nat.pow_add]
 unfold cym
 rw [hq, hr, hp]
 obtain ⟨P, hP, hP0⟩ : ∃ P, P = 2 ^ (64 * k) ∧ 0 < P := ⟨_, rfl, Nat.two_pow_pos _⟩
 rw [← hP]
 obtain ⟨x, hx⟩ : ∃ x, x = a % P := ⟨_, rfl⟩
 obtain ⟨h, hh⟩ : ∃ h, h = a / P := ⟨_, rfl⟩
 have ha : a = P * h + x := by rw [hh, hx, Nat.div_add_mod]
 have hxl : x < P := by rw [hx]; exact Nat.mod_lt _ hP0
 obtain ⟨q, hqq⟩ : ∃ q, q = h % 18446744073709551616 := ⟨_, rfl⟩
 obtain ⟨g, hg⟩ : ∃ g, g = h / 18446744073709551616 := ⟨_, rfl⟩
 have hhg : h = 18446744073709551616 * g + q := by rw [hg, hqq, Nat.div_add_mod]
 have e1 : a % (P * 18446744073709551616) = P * q + x := by
  rw [Nat.mod_mul, ← hx, ← hh, ← hqq, Nat.add_comm]
 rw [e1, ← hx, ← hh, ← hqq]
 have e2 : (P * q + x) * b + d = P * (q * b) + (x * b + d) := by rw [Nat.add_mul, Nat.mul_assoc, Nat.add_assoc]
 have e3 : ((P * q + x) * b + d) / (P * 18446744073709551616) = (q * b + (x * b + d) / P) / 18446744073709551616 := by
  rw [← Nat.div_div_eq_div_mul, e2, Nat.mul_add_div hP0]
 have e4 : (a * b + d) / P = h * b + (x * b + d) / P := by
  rw [ha, show (P * h + x) * b + d = P * (h * b) + (x * b + d) by rw [Nat.add_mul, Nat.mul_assoc, Nat.add_assoc], Nat.mul_add_div hP0]
 rw [e3, e4]
 generalize (x * b + d) / P = c
 have e5 : h * b + c = 18446744073709551616 * (g * b) + (q * b + c) := by rw [hhg, Nat.add_mul, Nat.mul_assoc, Nat.add_assoc]
 rw [e5, Nat.mul_add_mod]
 generalize q * b + c = t
 omega
theorem cym_lt (a b d k : Nat) (hb : b < 100) (hd : d < 100) : cym a b d k < 200 := by
 unfold cym
 have hP : 0 < 2 ^ (64 * k) := Nat.two_pow_pos _
 rw [Nat.div_lt_iff_lt_mul hP]
 have h1 : a % 2 ^ (64 * k) < 2 ^ (64 * k) := Nat.mod_lt _ hP
 have h2 : a % 2 ^ (64 * k) * b ≤ 2 ^ (64 * k) * 99 := Nat.mul_le_mul (by omega) (by omega)
 omega
theorem cym4 (a b d : Nat) (ha : a < M) : (cym a b d 4 ≠ 0) ↔ M ≤ a * b + d := by
 unfold cym
 have e : 2 ^ (64 * 4) = M := pw4
 rw [e, Nat.mod_eq_of_lt ha, Ne, Nat.div_eq_zero_iff]
 unfold M
 omega
theorem row_stepN {w : World} {b : Nat} {t : TypeId} {n k : Nat} {f g : Nat → Int} (h : w.rowIs b t n (u64s fun i => if i < k then f i else g i)) {x : Int} (hx : x = f k) :
  (w.setCell ⟨b, k, none⟩ (.int .u64 x)).rowIs b t n (u64s fun i => if i < k + 1 then f i else g i) := row_step h hx
theorem tp_num {q b c hi lo s1 c1 c' r : Nat} (h0 : q * b + c = c' * 18446744073709551616 + r) (hr : r < 18446744073709551616) (h1 : hi * 18446744073709551616 + lo = q * b) (h2 : s1 + c1 * 18446744073709551616 = lo + c) (h3 : s1 < 18446744073709551616) : s1 = r ∧ hi + c1 = c' := by
 rw [← h1] at h0
 omega
set_option maxRecDepth 100000 in
set_option maxHeartbeats 2000000 in
theorem timesPlus_any (a b d : Nat) (ha : Hid (a < M)) (hb : b < 100) (hd : d < 100) (w : World) : Calls Tryz.prog 201 #[wv a, .int .u64 (b : Int), .int .u64 (d : Int)] w fun e w' => ∃ r : Nat, Hid (r = (a * b + d) % M) ∧ e = .returned (.tuple #[wv r, .bool (decide (M ≤ a * b + d))]) ∧ Below w.heap.size w w' := by
 obtain ⟨R, HR⟩ : ∃ R, Hid (R = a * b + d) := ⟨_, rfl⟩
 go_enter Tryz.func201, Tryz.ntmps201
 go_wp2
 go_loopw [8, 15] (fun t8 t15 wr => ∃ k c : Nat, k ≤ 4 ∧ t15 = .int .i64 k ∧ t8 = .int .u64 c ∧ c < 200 ∧ Hid (c = cym a b d k) ∧ wr.rowIs w.heap.size 24 4 (u64s fun i => if i < k then limb R i else limb a i) ∧ wr.rowIs (w.heap.size + 1) 24 4 (u64s fun _ => 0) ∧ Below w.heap.size w wr)
   (fun _ t15 _ => 4 - (intOf t15).toNat)
 case atStart =>
  exact ⟨0, d, by omega, rfl, rfl, by omega, (cym0 a b d).symm, (row_lit4 _ rfl rfl rfl rfl rfl).alloc _, row_lit4 (fun _ => 0) (by simp) rfl rfl rfl rfl, bal (bal (Below.refl _ _) _) _⟩
 case round =>
  obtain ⟨k, c, hk, rfl, rfl, hc, HC, hra, hrz, hbel⟩ := hrel
  by_cases hlt : k < 4
  ·have hdk : decide ((k : Int) < 4) = true := by simp; omega
   have ca := hra.cell hlt
   have fa := hra.frozen k
   simp only [u64s, Nat.lt_irrefl, if_false, limb_eq] at ca
   have hst := cym_step a b d k
   rw [← HC.out, ← HR.out] at hst
   have HS : Hid (limbN a k * b + c = cym a b d (k + 1) * 18446744073709551616 + limbN R k) := hst
   have HN : Hid (cym a b d (k + 1) < 200) := cym_lt a b d (k + 1) hb hd
   clear hst
   go_wp2_with fail
   refine (mul64_ex (limbN a k) b (limbN_lt _ _) (by omega) _).mono ?_
   rintro e w' ⟨hi, lo, h1, l1, l2, rfl, rfl⟩
   obtain ⟨s1, c1, h2, l3, l4, r1⟩ := add64_ex lo c
   obtain ⟨e1, e2⟩ := tp_num HS.out (limbN_lt _ _) h1.out h2.out l3
   have hsum : hi + c1 < 200 := by rw [e2]; exact HN.out
   have E1 : Hid (s1 = limbN R k) := e1
   have E2 : Hid (hi + c1 = cym a b d (k + 1)) := e2
   clear l4 l1 l2 l3 e1 e2
   go_wp2
   go_roundw
   case rel =>
    exact ⟨k + 1, hi + c1, by omega, by go_num, by go_num, hsum, E2, row_stepN hra (by rw [E1.out]; rfl), hrz.setOther (by simp) _, bset hbel (by simp) _⟩
   case measure => simp [intOf]; omega
  ·obtain rfl : k = 4 := by omega
   have hrow : wr.rowIs w.heap.size 24 4 (u64s (limb R)) := hra.congr fun i hi => by simp only [u64s]; rw [if_pos hi]
   clear hra
   have HB : Hid ((((c : Nat) : Int) != 0) = decide (M ≤ a * b + d)) := by
    show _ = _
    rw [Bool.eq_iff_iff, decide_eq_true_eq, ← cym4 a b d ha.out, ← HC.out]
    simp
   obtain ⟨c0, c1, c2, c3⟩ := row_cells4 hrow
   obtain ⟨z0, z1, z2, z3⟩ := row_cells4 hrz
   have f0 := hrz.frozen
   go_wp2
   obtain ⟨q0, q1, q2, q3⟩ := row_cells4 (row_put4 hrz (limb R) rfl rfl rfl rfl)
   refine bodyPost_ret (v := .tuple #[wv R, .bool (((c : Nat) : Int) != 0)]) (by simp [results, Tryz.results201, go_sem, q0, q1, q2, q3]) rfl ⟨(a * b + d) % M, rfl, ?_, below_put4 hbel (by omega) _ _ _ _⟩
   rw [HB.out, ← HR.out, wv_mod]
end
section
open Go.RowKit
set_option maxHeartbeats 8000000
def dgt (r : Nat) : Nat := if 48 ≤ r ∧ r ≤ 57 then r - 48 else if 97 ≤ r ∧ r ≤ 102 then r - 87 else 16
theorem dgt_le (r : Nat) : dgt r ≤ 16 := by
 unfold dgt
 split
 ·omega
 ·split <;> omega
set_option maxRecDepth 100000 in
theorem digit_any (r : Nat) (hr : r ≤ 2147483647) (w : World) : Calls Tryz.prog 200 #[.int .i32 (r : Int)] w fun e w' => e = .returned (.int .u64 (dgt r : Int)) ∧ w' = w := by
 rcases (by omega : r < 48 ∨ (48 ≤ r ∧ r ≤ 57) ∨ (57 < r ∧ r < 97) ∨ (97 ≤ r ∧ r ≤ 102) ∨ 102 < r) with h | h | h | h | h
 ·have HD : Hid ((dgt r : Int) = 16) := by show _ = _; unfold dgt; (split <;> first | omega | (split <;> omega))
  have d0 : decide (48 ≤ (r : Int)) = false := by simp; omega
  have d1 : decide (97 ≤ (r : Int)) = false := by simp; omega
  go_enter Tryz.func200, Tryz.ntmps200
  go_wp2
  go_ret
  exact ⟨by rw [HD.out]; rfl, rfl⟩
 ·have HD : Hid ((dgt r : Int) = (r : Int) - 48) := by show _ = _; unfold dgt; (split <;> first | omega | (split <;> omega))
  have d0 : decide (48 ≤ (r : Int)) = true := by simp; omega
  have d1 : decide ((r : Int) ≤ 57) = true := by simp; omega
  go_enter Tryz.func200, Tryz.ntmps200
  go_wp2
  go_ret
  exact ⟨by rw [HD.out]; rfl, rfl⟩
 ·have HD : Hid ((dgt r : Int) = 16) := by show _ = _; unfold dgt; (split <;> first | omega | (split <;> omega))
  have d0 : decide (48 ≤ (r : Int)) = true := by simp; omega
  have d1 : decide ((r : Int) ≤ 57) = false := by simp; omega
  have d2 : decide (97 ≤ (r : Int)) = false := by simp; omega
  go_enter Tryz.func200, Tryz.ntmps200
  go_wp2
  go_ret
  exact ⟨by rw [HD.out]; rfl, rfl⟩
 ·have HD : Hid ((dgt r : Int) = (r : Int) - 97 + 10) := by show _ = _; unfold dgt; (split <;> first | omega | (split <;> omega))
  have d0 : decide (48 ≤ (r : Int)) = true := by simp; omega
  have d1 : decide ((r : Int) ≤ 57) = false := by simp; omega
  have d2 : decide (97 ≤ (r : Int)) = true := by simp; omega
  have d3 : decide ((r : Int) ≤ 102) = true := by simp; omega
  go_enter Tryz.func200, Tryz.ntmps200
  go_wp2
  go_ret
  exact ⟨by rw [HD.out]; rfl, rfl⟩
 ·have HD : Hid ((dgt r : Int) = 16) := by show _ = _; unfold dgt; (split <;> first | omega | (split <;> omega))
  have d0 : decide (48 ≤ (r : Int)) = true := by simp; omega
  have d1 : decide ((r : Int) ≤ 57) = false := by simp; omega
  have d2 : decide (97 ≤ (r : Int)) = true := by simp; omega
  have d3 : decide ((r : Int) ≤ 102) = false := by simp; omega
  go_enter Tryz.func200, Tryz.ntmps200
  go_wp2
  go_ret
  exact ⟨by rw [HD.out]; rfl, rfl⟩
def cutP (t pre : ByteArray) : ByteArray := if pf t pre then t.extract pre.size t.size else t
theorem cutPrefix_any (t pre : ByteArray) (ht : t.size ≤ 2000) (hp : pre.size ≤ 2000) (w : World) : Calls Tryz.prog 142 #[.string t, .string pre] w fun e w' => e = .returned (.tuple #[.string (cutP t pre), .bool (pf t pre)]) ∧ w' = w := by
 by_cases h : pre.size ≤ t.size
 ·have HP : pf t pre = ((t.extract 0 pre.size).toList == pre.toList) := by unfold pf; rw [decide_eq_true h, Bool.true_and]
  cases hq : ((t.extract 0 pre.size).toList == pre.toList)
  ·rw [hq] at HP
   have HC : Hid (cutP t pre = t) := by show _ = _; unfold cutP; rw [HP]; rfl
   have HQ : Hid (pf t pre = false) := HP
   clear HP
   go_enter Tryz.func142, Tryz.ntmps142
   go_wp2
   go_ret2
   exact ⟨by rw [HC.out, HQ.out]; rfl, rfl⟩
  ·rw [hq] at HP
   have HC : Hid (cutP t pre = t.extract pre.size t.size) := by show _ = _; unfold cutP; rw [HP]; rfl
   have HQ : Hid (pf t pre = true) := HP
   clear HP
   go_enter Tryz.func142, Tryz.ntmps142
   go_wp2
   go_ret2
   exact ⟨by rw [HC.out, HQ.out]; rfl, rfl⟩
 ·have HP : pf t pre = false := by unfold pf; rw [decide_eq_false h, Bool.false_and]
  have HC : Hid (cutP t pre = t) := by show _ = _; unfold cutP; rw [HP]; rfl
  have HQ : Hid (pf t pre = false) := HP
  clear HP
  go_enter Tryz.func142, Tryz.ntmps142
  go_wp2
  go_ret2
  exact ⟨by rw [HC.out, HQ.out]; rfl, rfl⟩
def sf (t suf : ByteArray) : Bool := decide (suf.size ≤ t.size) && ((t.extract (t.size - suf.size) t.size).toList == suf.toList)
def cutS (t suf : ByteArray) : ByteArray := if sf t suf then t.extract 0 (t.size - suf.size) else t
theorem cutSuffix_any (t suf : ByteArray) (ht : t.size ≤ 2000) (hp : suf.size ≤ 2000) (w : World) : Calls Tryz.prog 140 #[.string t, .string suf] w fun e w' => e = .returned (.tuple #[.string (cutS t suf), .bool (sf t suf)]) ∧ w' = w := by
 by_cases h : suf.size ≤ t.size
 ·obtain ⟨n, hn⟩ : ∃ n : Nat, (t.size : Int) - (suf.size : Int) = (n : Int) := ⟨t.size - suf.size, by omega⟩
  have hnn : t.size - suf.size = n := by omega
  have hnl : n ≤ t.size := by omega
  have HP : sf t suf = ((t.extract n t.size).toList == suf.toList) := by unfold sf; rw [decide_eq_true h, Bool.true_and, hnn]
  have HK : cutS t suf = if sf t suf then t.extract 0 n else t := by unfold cutS; rw [hnn]
  clear hnn
  cases hq : ((t.extract n t.size).toList == suf.toList)
  ·rw [hq] at HP
   rw [HP] at HK
   have HC : Hid (cutS t suf = t) := HK
   have HQ : Hid (sf t suf = false) := HP
   clear HP HK
   go_enter Tryz.func140, Tryz.ntmps140
   go_wp2
   go_ret2
   exact ⟨by rw [HC.out, HQ.out]; rfl, rfl⟩
  ·rw [hq] at HP
   rw [HP] at HK
   have HC : Hid (cutS t suf = t.extract 0 n) := HK
   have HQ : Hid (sf t suf = true) := HP
   clear HP HK
   go_enter Tryz.func140, Tryz.ntmps140
   go_wp2
   go_ret2
   exact ⟨by rw [HC.out, HQ.out]; rfl, rfl⟩
 ·have HP : sf t suf = false := by unfold sf; rw [decide_eq_false h, Bool.false_and]
  have HC : Hid (cutS t suf = t) := by show _ = _; unfold cutS; rw [HP]; rfl
  have HQ : Hid (sf t suf = false) := HP
  clear HP
  go_enter Tryz.func140, Tryz.ntmps140
  go_wp2
  go_ret2
  exact ⟨by rw [HC.out, HQ.out]; rfl, rfl⟩
end
section
open Go.RowKit
def numF (s : ByteArray) (base : Nat) : Nat → Nat → Nat → Bool → Option (Nat × Bool)
 | 0, _, n, g => some (n, g)
 | f + 1, p, n, g => if p < s.size then (if dgt (byt s p) < base then numF s base f (p + 1) ((n * base + dgt (byt s p)) % M) (g || decide (M ≤ n * base + dgt (byt s p))) else none) else some (n, g)
def num (s : ByteArray) (base : Nat) : Option (Nat × Bool) := numF s base s.size 0 0 false
theorem numF_end (s : ByteArray) (base f p n : Nat) (g : Bool) (h : ¬ p < s.size) : numF s base f p n g = some (n, g) := by
 cases f with
 | zero => rfl
 | succ f => simp [numF, h]
theorem num_step {s : ByteArray} {base f p n : Nat} {g : Bool} {c : Option (Nat × Bool)} (hp : p < s.size) (h0 : dgt (byt s p) < base) (hf : 0 < f) (h : numF s base f p n g = c) : numF s base (f - 1) (p + 1) ((n * base + dgt (byt s p)) % M) (g || decide (M ≤ n * base + dgt (byt s p))) = c := by
 obtain ⟨k, rfl⟩ : ∃ k, f = k + 1 := ⟨f - 1, by omega⟩
 rw [← h]
 simp [numF, hp, h0]
theorem num_no {s : ByteArray} {base f p n : Nat} {g : Bool} {c : Option (Nat × Bool)} (hp : p < s.size) (h0 : ¬ dgt (byt s p) < base) (hf : 0 < f) (h : numF s base f p n g = c) : c = none := by
 obtain ⟨k, rfl⟩ : ∃ k, f = k + 1 := ⟨f - 1, by omega⟩
 rw [← h]
 simp [numF, hp, h0]
def rnum (t : ByteArray) (base : Nat) : Nat × Int := match num t base with
 | none => (0, 2)
 | some (n, g) => if t.size = 0 then (0, 2) else if g then (0, 4) else (n, 0)
def x0 : ByteArray := ⟨#[48, 120]⟩
def rbase (s : ByteArray) : Nat := if pf s x0 then 16 else 10
def rnumber (s : ByteArray) : Nat × Int := rnum (cutP s x0) (rbase s)
theorem rune_digit (s : ByteArray) (p : Nat) : dgt (Utf8.decode s p).1 = dgt (byt s p) ∧ (dgt (byt s p) < 16 → (Utf8.decode s p).2 = 1) := by
 by_cases h : byt s p < 128
 ·have e : Utf8.decode s p = (byt s p, 1) := by rw [decode_dec, dec_one _ _ _ _ _ _ h]
  rw [e]
  exact ⟨rfl, fun _ => rfl⟩
 ·have hd := dec_small s.size p (byt s p) (byt s (p + 1)) (byt s (p + 2)) (byt s (p + 3))
  rw [← decode_dec] at hd
  have h1 : ¬ (Utf8.decode s p).1 ≤ 127 := fun k => h (hd.1 k)
  have e1 : dgt (byt s p) = 16 := by unfold dgt; rw [if_neg (by omega), if_neg (by omega)]
  have e2 : dgt (Utf8.decode s p).1 = 16 := by unfold dgt; rw [if_neg (by omega), if_neg (by omega)]
  rw [e1, e2]
  exact ⟨rfl, fun k => by omega⟩
end
section
open Go.RowKit Go.Lib
structure IT (w : World) (t : ByteArray) (z b k p n : Nat) (x : World) : Prop where
 it : x.heap[k]? = some (.stringIter t p)
 rz : x.rowIs z 24 4 (u64s fun _ => 0)
 rn : x.rowIs b 24 4 (u64s (limb n))
 hz : w.heap.size ≤ z
 hzb : z < b
 hbk : b < k
 be : Below w.heap.size w x
theorem IT.call {w : World} {t : ByteArray} {z b k p n : Nat} {x y : World} (h : IT w t z b k p n x) (hb : Below x.heap.size x y) : IT w t z b k p n y :=
 ⟨by rw [hb.block k (Array.getElem?_eq_some_iff.1 h.it).1]; exact h.it, row_below h.rz hb, row_below h.rn hb, h.hz, h.hzb, h.hbk, bcall h.be hb⟩
theorem IT.next {w : World} {t : ByteArray} {z b k p n : Nat} {x : World} (h : IT w t z b k p n x) (q : Nat) : IT w t z b k q n (x.iterAt k t q) := by
 have h1 := h.hz
 have h2 := h.hzb
 have h3 := h.hbk
 exact ⟨iterAt_heap x k t p q h.it, h.rz.of_block (iterAt_other x k z t q (by omega)), h.rn.of_block (iterAt_other x k b t q (by omega)), h1, h2, h3, below_iterAt h.be (by omega) t q⟩
theorem setCell_blk (x : World) (a : Addr) (v : Value) (k : Nat) (h : k ≠ a.block) : (x.setCell a v).heap[k]? = x.heap[k]? := Go.Deep.blk_setCell_other x a v k h
theorem IT.put {w : World} {t : ByteArray} {z b k p n : Nat} {x : World} (h : IT w t z b k p n x) (m : Nat) : IT w t z b k p m ((((x.setCell ⟨b, 0, none⟩ (.int .u64 (limb m 0))).setCell ⟨b, 1, none⟩ (.int .u64 (limb m 1))).setCell ⟨b, 2, none⟩ (.int .u64 (limb m 2))).setCell ⟨b, 3, none⟩ (.int .u64 (limb m 3))) := by
 have h1 := h.hz
 have h2 := h.hzb
 have h3 := h.hbk
 refine ⟨?_, (((h.rz.setOther (by simp; omega) _).setOther (by simp; omega) _).setOther (by simp; omega) _).setOther (by simp; omega) _, row_put4 h.rn (limb m) rfl rfl rfl rfl, h1, h2, h3, below_put4 h.be (by omega) _ _ _ _⟩
 rw [setCell_blk _ _ _ _ (by simp; omega), setCell_blk _ _ _ _ (by simp; omega), setCell_blk _ _ _ _ (by simp; omega), setCell_blk _ _ _ _ (by simp; omega)]
 exact h.it
theorem rnum_none {t : ByteArray} {b : Nat} (h : num t b = none) : rnum t b = (0, 2) := by unfold rnum; rw [h]
theorem rnum_some {t : ByteArray} {b n : Nat} {g : Bool} (h : num t b = some (n, g)) : rnum t b = if t.size = 0 then (0, 2) else if g then (0, 4) else (n, 0) := by unfold rnum; rw [h]
set_option maxRecDepth 100000 in
set_option maxHeartbeats 4000000 in
theorem readNumber_any (s : ByteArray) (hs : s.size ≤ 2000) (w : World) : Calls Tryz.prog 144 #[.string s] w fun e w' => ∃ r : Nat, ∃ k : Int, Hid ((r, k) = rnumber s) ∧ e = .returned (.tuple #[wv r, .int .i64 k]) ∧ Below w.heap.size w w' := by
 obtain ⟨t, Ht⟩ : ∃ t, Hid (t = cutP s x0) := ⟨_, rfl⟩
 obtain ⟨b, Hb⟩ : ∃ b, Hid (b = rbase s) := ⟨_, rfl⟩
 obtain ⟨q, Hq⟩ : ∃ q, Hid (q = pf s x0) := ⟨_, rfl⟩
 have hts : t.size ≤ 2000 := by
  rw [Ht.out]; unfold cutP; split
  ·rw [ByteArray.size_extract]; omega
  ·exact hs
 have HB : Hid (b = if q then 16 else 10) := by show _ = _; rw [Hb.out, Hq.out]; rfl
 have HT0 : Hid (q = false → t = s) := fun h => by rw [Ht.out]; unfold cutP; rw [← Hq.out, h]; rfl
 have HCP : Hid (∀ w, Calls Tryz.prog 142 #[.string s, .string ⟨#[48, 120]⟩] w fun e w' => e = .returned (.tuple #[.string t, .bool q]) ∧ w' = w) := fun w => by
  have h := cutPrefix_any s x0 hs (by decide) w
  rw [← Ht.out, ← Hq.out] at h
  exact h
 have hrz := row_lit4 (w := w) (n := w.heap.size) (t := 24) (fun _ => 0) rfl rfl rfl rfl rfl
 have hbel := bal (Below.refl _ w) (.cells #[.int .u64 0, .int .u64 0, .int .u64 0, .int .u64 0] 24)
 go_enter Tryz.func144, Tryz.ntmps144
 go_wp2_with fail
 refine (HCP.out _).mono ?_
 rintro e w' ⟨rfl, rfl⟩
 go_upto_if 20 with fail
 go_cut [4, 5] (fun t4 t5 wx => t4 = .string t ∧ t5 = .int .u64 (b : Int) ∧ wx.rowIs w.heap.size 24 4 (u64s fun _ => 0) ∧ Below w.heap.size w wx ∧ wx.heap.size = w.heap.size + 1)
 case first =>
  cases q
  ·have E1 : Hid (t = s) := HT0.out rfl
   have E2 : Hid (b = 10) := HB.out
   clear HB HT0
   go_wp2_with fail
   go_meet
   case rel => exact ⟨by rw [E1.out], by rw [E2.out]; rfl, hrz, hbel, by simp⟩
  ·have E2 : Hid (b = 16) := HB.out
   clear HB HT0
   go_wp2_with fail
   go_meet
   case rel => exact ⟨rfl, by rw [E2.out]; rfl, hrz, hbel, by simp⟩
 case rest =>
  clear hrz hbel
  obtain ⟨rfl, rfl, hrz, hbel, hsz⟩ := hcut
  have HBL : Hid (b ≤ 16 ∧ 10 ≤ b) := by show _ ∧ _; rw [HB.out]; split <;> omega
  clear HB HT0 HCP
  have hit : IT w t w.heap.size (w.heap.size + 1) (w.heap.size + 1 + 1) 0 0 ((wc.alloc (.cells #[.int .u64 0, .int .u64 0, .int .u64 0, .int .u64 0] 24)).iter t 0) := by
   refine ⟨?_, (hrz.alloc _).alloc _, (row_lit4 (limb 0) hsz.symm (limb_zero 0).symm (limb_zero 1).symm (limb_zero 2).symm (limb_zero 3).symm).alloc _, Nat.le_refl _, by omega, by omega, bal (bal hbel _) _⟩
   have h := World.iter_heap (wc.alloc (.cells #[.int .u64 0, .int .u64 0, .int .u64 0, .int .u64 0] 24)) t 0
   rw [← hsz]
   simpa using h
  go_wp2
  go_loopw [9] (fun t9 wr => ∃ (p f n : Nat) (g : Bool), t9 = .bool g ∧ IT w t w.heap.size (w.heap.size + 1) (w.heap.size + 1 + 1) p n wr ∧ p ≤ t.size ∧ t.size ≤ p + f ∧ Hid (n < M) ∧ Hid (numF t b f p n g = num t b)) (fun _ wr => t.size - wr.iterPos (w.heap.size + 1 + 1))
  case atStart => exact ⟨0, t.size, 0, false, rfl, hit, by omega, by omega, by show _ < _; unfold M; omega, rfl⟩
  case round =>
   clear hit hrz hbel
   obtain ⟨p, f, n, g, rfl, hs2, hps, hf, HM, HC⟩ := hrel
   have hpos : wr.iterPos (w.heap.size + 1 + 1) = p := by simp [World.iterPos, hs2.it]
   have HPOS : Hid (wr.iterPos (w.heap.size + 1 + 1) = p) := hpos
   clear hpos
   by_cases hp : p < t.size
   ·have hnx : ∀ ty, (Instr.next (.pointer (some ⟨w.heap.size + 1 + 1, 0, none⟩)) true ty).run Tryz.prog wr = _ := fun ty => run_next_any_at wr (w.heap.size + 1 + 1) t p ty hs2.it hp
    have hle := decode_le t p
    obtain ⟨hd1, hd2⟩ := rune_digit t p
    by_cases hdb : dgt (byt t p) < b
    ·have hwd : (Utf8.decode t p).2 = 1 := hd2 (by have := HBL.out; omega)
     rw [hwd] at hnx
     have HS : Hid (numF t b (f - 1) (p + 1) ((n * b + dgt (byt t p)) % M) (g || decide (M ≤ n * b + dgt (byt t p))) = num t b) := num_step hp hdb (by omega) HC.out
     have HDG : Hid (∀ w, Calls Tryz.prog 200 #[.int .i32 ((Utf8.decode t p).1 : Int)] w fun e w' => e = .returned (.int .u64 (dgt (byt t p) : Int)) ∧ w' = w) := fun w => by rw [← hd1]; exact digit_any _ hle w
     have HD16 : Hid (dgt (byt t p) ≤ 16) := dgt_le _
     clear hd1 hd2 hwd
     generalize (Utf8.decode t p).1 = r at *
     generalize dgt (byt t p) = d at *
     have hs3 := hs2.next (p + 1)
     have hdd : decide ((b : Int) ≤ (d : Int)) = false := by simp; omega
     go_wp2_with fail
     refine (HDG.out _).mono ?_
     rintro e w' ⟨rfl, rfl⟩
     obtain ⟨c0, c1, c2, c3⟩ := row_cells4 hs3.rn
     have hb100 : b < 100 := by have := HBL.out; omega
     have hd100 : d < 100 := by have := HD16.out; omega
     have HT : Hid (b < 100 ∧ d < 100) := ⟨hb100, hd100⟩
     clear hb100 hd100
     go_wp2_with fail
     refine (timesPlus_any n b d HM HT.out.1 HT.out.2 _).mono ?_
     rintro e w3 ⟨m, HMM, rfl, hb2⟩
     have hs4 := hs3.call hb2
     clear c0 c1 c2 c3 hb2 hs2
     obtain ⟨c0, c1, c2, c3⟩ := row_cells4 hs4.rn
     have fz := hs4.rn.frozen
     obtain ⟨ov, HO⟩ : ∃ o, Hid (o = decide (M ≤ n * b + d)) := ⟨_, rfl⟩
     rw [← HO.out]
     have HS2 : Hid (numF t b (f - 1) (p + 1) m (g || ov) = num t b) := by show _ = _; rw [HMM.out, HO.out]; exact HS.out
     have HM2 : Hid (m < M) := by show _ < _; rw [HMM.out]; exact Nat.mod_lt _ Mpos
     have hs5 := hs4.put m
     have HPO2 : Hid (((((w3.setCell ⟨w.heap.size + 1, 0, none⟩ (.int .u64 (limb m 0))).setCell ⟨w.heap.size + 1, 1, none⟩ (.int .u64 (limb m 1))).setCell ⟨w.heap.size + 1, 2, none⟩ (.int .u64 (limb m 2))).setCell ⟨w.heap.size + 1, 3, none⟩ (.int .u64 (limb m 3))).iterPos (w.heap.size + 1 + 1) = p + 1) := by show _ = _; simp only [World.iterPos, hs5.it]
     clear hnx
     cases g <;> cases ov
     all_goals go_wp2
     all_goals go_roundw
     all_goals first
      | exact ⟨p + 1, f - 1, m, _, rfl, hs5, by omega, by omega, HM2, HS2⟩
      | (rw [HPO2.out, HPOS.out]; omega)
    ·have HR : Hid (num t b = none) := num_no hp hdb (by omega) HC.out
     have HDG : Hid (∀ w, Calls Tryz.prog 200 #[.int .i32 ((Utf8.decode t p).1 : Int)] w fun e w' => e = .returned (.int .u64 (dgt (byt t p) : Int)) ∧ w' = w) := fun w => by rw [← hd1]; exact digit_any _ hle w
     clear hd1 hd2
     have hs3 := hs2.next (p + (Utf8.decode t p).2)
     generalize (Utf8.decode t p).1 = r at *
     generalize (Utf8.decode t p).2 = v at *
     generalize dgt (byt t p) = d at *
     have hdd : decide ((b : Int) ≤ (d : Int)) = true := by simp; omega
     go_wp2_with fail
     refine (HDG.out _).mono ?_
     rintro e w' ⟨rfl, rfl⟩
     obtain ⟨c0, c1, c2, c3⟩ := row_cells4 hs3.rz
     have fz := hs3.rz.frozen
     clear hnx
     go_wp2
     obtain ⟨q0, q1, q2, q3⟩ := row_cells4 (row_put4 hs3.rz (limb 0) (limb_zero 0).symm (limb_zero 1).symm (limb_zero 2).symm (limb_zero 3).symm)
     refine bodyPost_ret (v := .tuple #[wv 0, .int .i64 2]) (by simp [results, Tryz.results144, go_sem, q0, q1, q2, q3]) rfl ⟨0, 2, ?_, rfl, below_put4 hs3.be (by omega) _ _ _ _⟩
     show _ = _
     unfold rnumber
     rw [← Ht.out, ← Hb.out, rnum_none HR.out]
   ·have HR : Hid (rnumber s = if t.size = 0 then (0, 2) else if g then (0, 4) else (n, 0)) := by
     show _ = _
     unfold rnumber
     rw [← Ht.out, ← Hb.out]
     exact rnum_some (by rw [← HC.out, numF_end t b f p n g hp])
    have hnx : ∀ ty, (Instr.next (.pointer (some ⟨w.heap.size + 1 + 1, 0, none⟩)) true ty).run Tryz.prog wr = _ := fun ty => run_next_end_at wr (w.heap.size + 1 + 1) t p ty hs2.it hp
    have hl : t.toList.isEmpty = decide (t.size = 0) := by
     rw [Go.ByteArray.toList_eq, Bool.eq_iff_iff, decide_eq_true_eq, List.isEmpty_iff, ← List.length_eq_zero_iff]
     exact Iff.rfl
    obtain ⟨c0, c1, c2, c3⟩ := row_cells4 hs2.rz
    have fz := hs2.rz.frozen
    by_cases hz : t.size = 0
    ·rw [if_pos hz] at HR
     have he : t.toList.isEmpty = true := by rw [hl, decide_eq_true hz]
     clear hl hz
     go_wp2
     obtain ⟨q0, q1, q2, q3⟩ := row_cells4 (row_put4 hs2.rz (limb 0) (limb_zero 0).symm (limb_zero 1).symm (limb_zero 2).symm (limb_zero 3).symm)
     exact bodyPost_ret (v := .tuple #[wv 0, .int .i64 2]) (by simp [results, Tryz.results144, go_sem, q0, q1, q2, q3]) rfl ⟨0, 2, HR.out.symm, rfl, below_put4 hs2.be (by omega) _ _ _ _⟩
    ·rw [if_neg hz] at HR
     have he : t.toList.isEmpty = false := by rw [hl, decide_eq_false hz]
     clear hl hz
     cases g
     ·have HR2 : Hid (rnumber s = (n, 0)) := HR.out
      clear HR
      obtain ⟨d0, d1, d2, d3⟩ := row_cells4 hs2.rn
      go_wp2
      obtain ⟨q0, q1, q2, q3⟩ := row_cells4 (row_put4 hs2.rz (limb n) rfl rfl rfl rfl)
      exact bodyPost_ret (v := .tuple #[wv n, .int .i64 0]) (by simp [results, Tryz.results144, go_sem, q0, q1, q2, q3]) rfl ⟨n, 0, HR2.out.symm, rfl, below_put4 hs2.be (by omega) _ _ _ _⟩
     ·have HR2 : Hid (rnumber s = (0, 4)) := HR.out
      clear HR
      go_wp2
      obtain ⟨q0, q1, q2, q3⟩ := row_cells4 (row_put4 hs2.rz (limb 0) (limb_zero 0).symm (limb_zero 1).symm (limb_zero 2).symm (limb_zero 3).symm)
      exact bodyPost_ret (v := .tuple #[wv 0, .int .i64 4]) (by simp [results, Tryz.results144, go_sem, q0, q1, q2, q3]) rfl ⟨0, 4, HR2.out.symm, rfl, below_put4 hs2.be (by omega) _ _ _ _⟩
end
section
variable {P : Program} {ops : Array Oper} {Q : Exit → Act → World → Prop}
def valo (s : Act) : Option Nat → Value
 | some d => s.tmps.getD d undef
 | none => undef
def zipo : List (Option Nat × (Value → World → Prop)) → List Value → List (Nat × Value)
 | (some d, _) :: l, v :: vs => (d, v) :: zipo l vs
 | (none, _) :: l, _ :: vs => zipo l vs
 | _, _ => []
theorem zipo_map (s : Act) : ∀ tab : List (Option Nat × (Value → World → Prop)), zipo tab (tab.map fun p => valo s p.1) = (tab.filterMap Prod.fst).map fun d => (d, s.tmps.getD d undef)
 | [] => rfl
 | (some d, T) :: l => by
  show (d, _) :: zipo l _ = _
  rw [zipo_map s l]; rfl
 | (none, T) :: l => by
  show zipo l _ = _
  rw [zipo_map s l]; rfl
theorem nodup_fst : ∀ (tab : List (Option Nat × (Value → World → Prop))), (tab.filterMap Prod.fst).Nodup → ∀ (i j d : Nat) (T T' : Value → World → Prop), tab[i]? = some (some d, T) → tab[j]? = some (some d, T') → i = j
 | [], _, i, _, _, _, _, h, _ => by simp at h
 | p :: l, hn, 0, 0, _, _, _, _, _ => rfl
 | p :: l, hn, 0, j + 1, d, T, T', h, h' => by
  obtain rfl : p = (some d, T) := by simpa using h
  exfalso
  have hm : d ∈ l.filterMap Prod.fst := List.mem_filterMap.2 ⟨(some d, T'), List.mem_of_getElem? (by simpa using h'), rfl⟩
  have : (d :: l.filterMap Prod.fst).Nodup := hn
  exact (List.nodup_cons.1 this).1 hm
 | p :: l, hn, i + 1, 0, d, T, T', h, h' => by
  obtain rfl : p = (some d, T') := by simpa using h'
  exfalso
  have hm : d ∈ l.filterMap Prod.fst := List.mem_filterMap.2 ⟨(some d, T), List.mem_of_getElem? (by simpa using h), rfl⟩
  have : (d :: l.filterMap Prod.fst).Nodup := hn
  exact (List.nodup_cons.1 this).1 hm
 | p :: l, hn, i + 1, j + 1, d, T, T', h, h' => by
  have hn' : (l.filterMap Prod.fst).Nodup := by
   obtain ⟨o, T0⟩ := p
   cases o with
   | none => exact hn
   | some d0 => exact (List.nodup_cons.1 (show (d0 :: l.filterMap Prod.fst).Nodup from hn)).2
  rw [nodup_fst l hn' i j d T T' (by simpa using h) (by simpa using h')]
theorem wp_region_pred {id : Nat} {a : Act} {w : World} (hm : P.follows .mixedOrders = true) (S : World → Prop) (R : Nat → World → World → Prop) (tab : List (Option Nat × (Value → World → Prop))) (hdown : downB ops = true)
  (hlen : tab.length = ops.size) (hnd : decide (tab.filterMap Prod.fst).Nodup = true) (hlt0 : ((tab.filterMap Prod.fst).all fun d => decide (d < a.tmps.size)) = true) (hS : S w.drew)
  (base : List (Nat × Value)) (hbase : ∀ p ∈ base, a.tmps.getD p.1 undef = p.2) (hapart : (base.all fun p => !(tab.filterMap Prod.fst).contains p.1) = true)
  (hstab : ∀ (i j : Nat) (d : Option Nat) (T : Value → World → Prop), tab[j]? = some (d, T) → i ≠ j → ∀ v x x', S x → R i x x' → T v x → T v x')
  (hstep : ∀ (i : Nat) (o : Oper) (d : Option Nat) (T : Value → World → Prop), ops[i]? = some o → tab[i]? = some (d, T) → ∀ s x, S x → (∀ p ∈ base, s.tmps.getD p.1 undef = p.2) →
   (∀ e ∈ o.after, Region.binds .any e = true → ∀ (d' : Option Nat) (T' : Value → World → Prop), tab[e.on]? = some (d', T') → T' (valo s d') x) →
   (Region.wanted o (yielded ops s.tmps) = true ∧ ∀ K : Act → World → Prop, (∀ v x', S x' → R i x x' → (d = none → v = undef) → T v x' → K (s.put d v) x') → Oper.wp P o s x K Q))
  (hdone : ∀ (vs : List Value) x, S x → vs.length = tab.length → (∀ (i : Nat) (d : Option Nat) (T : Value → World → Prop), tab[i]? = some (d, T) → T (vs.getD i undef) x) → Q .normal (fill a (zipo tab vs)) x) : (Code.region id ops true).wp P Q a w := by
 have hnd := of_decide_eq_true hnd
 have hlt : ∀ d, d ∈ tab.filterMap Prod.fst → d < a.tmps.size := fun d hd => of_decide_eq_true (List.all_eq_true.1 hlt0 d hd)
 have hap : ∀ p ∈ base, p.1 ∉ tab.filterMap Prod.fst := fun p hp hm => by
  have := List.all_eq_true.1 hapart p hp
  simp only [Bool.not_eq_true', List.contains_eq_mem, decide_eq_false_iff_not] at this
  exact this hm
 refine wp_region_inv hm (fun s x => S x ∧ s.tmps.size = a.tmps.size ∧ s.defers = a.defers ∧ (∀ k, k ∉ tab.filterMap Prod.fst → s.tmps.getD k undef = a.tmps.getD k undef))
  (fun i s x => ∀ (d : Option Nat) (T : Value → World → Prop), tab[i]? = some (d, T) → T (valo s d) x) (hall_of hdown) ⟨hS, rfl, rfl, fun _ _ => rfl⟩ ?_ ?_
 ·rintro i o ho s x ⟨hs, hsz, hdf, hout⟩ hdep
  have hi : i < tab.length := by rw [hlen]; exact (Array.getElem?_eq_some_iff.1 ho).1
  obtain ⟨⟨d, T⟩, hdv⟩ : ∃ p, tab[i]? = some p := ⟨_, List.getElem?_eq_getElem hi⟩
  have hmem : (d, T) ∈ tab := List.mem_of_getElem? hdv
  refine wpOp_step ho fun K hK => ?_
  obtain ⟨hw, hstep'⟩ := hstep i o d T ho hdv s x hs (fun p hp => (hout p.1 (hap p hp)).trans (hbase p hp)) hdep
  rw [if_pos hw]
  refine hstep' K fun v x' hs' hr hv ht => ?_
  cases d with
  | none =>
   refine hK _ _ ⟨⟨hs', hsz, hdf, hout⟩, ?_, ?_⟩
   ·intro d' T' h'
    rw [hdv] at h'
    obtain ⟨rfl, rfl⟩ := Prod.mk.inj (Option.some.inj h')
    rw [hv rfl] at ht
    exact ht
   ·intro j hj _ hF d' T' h'
    exact hstab i j d' T' h' (fun e => hj e.symm) _ _ _ hs hr (hF d' T' h')
  | some d =>
   have hdm : d ∈ tab.filterMap Prod.fst := List.mem_filterMap.2 ⟨_, hmem, rfl⟩
   have hd : d < s.tmps.size := by rw [hsz]; exact hlt _ hdm
   refine hK _ _ ⟨⟨hs', by rw [put_size, hsz], by rw [put_defers, hdf], ?_⟩, ?_, ?_⟩
   ·intro k hk
    rw [put_getD _ _ _ _ hd, if_neg (fun (h : k = d) => hk (h ▸ hdm)), hout k hk]
   ·intro d' T' h'
    rw [hdv] at h'
    obtain ⟨rfl, rfl⟩ := Prod.mk.inj (Option.some.inj h')
    show T ((s.put (some d) v).tmps.getD d undef) x'
    rw [put_getD _ _ _ _ hd, if_pos rfl]
    exact ht
   ·intro j hj _ hF d' T' h'
    have h2 := hstab i j d' T' h' (fun e => hj e.symm) _ _ _ hs hr (hF d' T' h')
    cases d' with
    | none => exact h2
    | some d' =>
     have hne : d' ≠ d := fun e => by
      subst e
      exact hj (nodup_fst tab hnd j i d' T' T h' hdv)
     show T' ((s.put (some d) v).tmps.getD d' undef) x'
     rw [put_getD _ _ _ _ hd, if_neg hne]
     exact h2
 ·rintro s x ⟨hs, hsz, hdf, hout⟩ hF
  have hmemt : ∀ p ∈ (tab.filterMap Prod.fst).map (fun d => (d, s.tmps.getD d undef)), p.1 < a.tmps.size := fun p hp => by
   obtain ⟨d, hd, rfl⟩ := List.mem_map.1 hp
   exact hlt d hd
  have hfst : ((tab.filterMap Prod.fst).map (fun d => (d, s.tmps.getD d undef))).map Prod.fst = tab.filterMap Prod.fst := by simp [List.map_map, Function.comp_def]
  have e : s = fill a (zipo tab (tab.map fun p => valo s p.1)) := by
   rw [zipo_map]
   refine act_ext (by rw [fill_size, hsz]) (by rw [fill_defers, hdf]) fun k _ => ?_
   by_cases hk : k ∈ tab.filterMap Prod.fst
   ·rw [fill_in _ a k (s.tmps.getD k undef) hmemt (by rw [hfst]; exact hnd) (List.mem_map.2 ⟨k, hk, rfl⟩)]
   ·rw [hout k hk, fill_out _ a k hmemt fun p hp e => hk (by obtain ⟨d, hd, rfl⟩ := List.mem_map.1 hp; exact e ▸ hd)]
  have h := hdone (tab.map fun p => valo s p.1) x hs (by simp) fun i d T h => by
   have := hF i (by rw [← hlen]; exact (List.getElem?_eq_some_iff.1 h).1) d T h
   rw [List.getD_eq_getElem?_getD, List.getElem?_map, h]
   exact this
  rwa [← e] at h
end
section
open Go.RowKit
def lb (n i : Nat) : Nat := n / 2 ^ (64 * i) % 18446744073709551616
theorem limb_lb (n i : Nat) : limb n i = (lb n i : Int) := rfl
theorem lb_lt (n i : Nat) : lb n i < 18446744073709551616 := Nat.mod_lt _ (by decide)
def cb (x y i : Nat) : Bool := decide (2 ^ i ≤ x % 2 ^ i + y % 2 ^ i)
end
section
open Go.RowKit
def bools (f : Nat → Bool) : Nat → Value := fun i => .bool (f i)
end
section
open Go.RowKit
def RowOf (w : World) (L n : Nat) (e : Ending) (w' : World) : Prop :=
 ∃ b r : Nat, Hid (r = n) ∧ e = .returned (.slice (some ⟨b, 0, none⟩) L L) ∧ w.heap.size ≤ b ∧ w'.rowIs b 4 L (bools r.testBit) ∧ Below w.heap.size w w'
end
section
open Go.RowKit
set_option maxRecDepth 100000
variable {s : Act} {x : World} {pos : String} {af : Array Edge} {g : Option (Nat × Bool)} {K : Act → World → Prop} {Q : Exit → Act → World → Prop}
def Own (f : Nat) : Prop := ∀ args w, (callFunc f args).run Tryz.prog w = .ok (.enter f args) w
theorem st_call {f d : Nat} {xs : Array Operand} {vs : Array Value} {A : Array TypeId} {ty : TypeId} {Post : Ending → World → Prop} (hf : Own f) (hv : #[] ++ xs.map s.eval ++ #[] = vs) (hc : Calls Tryz.prog f vs x Post)
  (hK : ∀ e x', Post e x' → ∃ r, e = .returned r ∧ K (s.put (some d) r) x') :
  Oper.wp Tryz.prog ⟨some d, .call ⟨.value (.func f), xs, A⟩, ty, pos, af, g⟩ s x K Q := by
 unfold Oper.wp
 rw [execOp_call_go, hv, hf]
 rw [Oper.upon_enter]
 refine hc.mono ?_
 intro e y h
 obtain ⟨r, rfl, h2⟩ := hK e y h
 exact h2
theorem ev1 {o1 : Operand} {v1 : Value} (h1 : s.eval o1 = v1) : #[] ++ (#[o1] : Array Operand).map s.eval ++ #[] = #[v1] := by simp [h1]
theorem ev2 {o1 o2 : Operand} {v1 v2 : Value} (h1 : s.eval o1 = v1) (h2 : s.eval o2 = v2) : #[] ++ (#[o1, o2] : Array Operand).map s.eval ++ #[] = #[v1, v2] := by simp [h1, h2]
theorem ev3 {o1 o2 o3 : Operand} {v1 v2 v3 : Value} (h1 : s.eval o1 = v1) (h2 : s.eval o2 = v2) (h3 : s.eval o3 = v3) : #[] ++ (#[o1, o2, o3] : Array Operand).map s.eval ++ #[] = #[v1, v2, v3] := by simp [h1, h2, h3]
theorem ev4 {o1 o2 o3 o4 : Operand} {v1 v2 v3 v4 : Value} (h1 : s.eval o1 = v1) (h2 : s.eval o2 = v2) (h3 : s.eval o3 = v3) (h4 : s.eval o4 = v4) : #[] ++ (#[o1, o2, o3, o4] : Array Operand).map s.eval ++ #[] = #[v1, v2, v3, v4] := by simp [h1, h2, h3, h4]
def SliceOf (L n : Nat) (v : Value) (x : World) : Prop := ∃ b r c : Nat, Hid (r = n) ∧ v = .slice (some ⟨b, 0, none⟩) L c ∧ x.rowIs b 4 L (bools r.testBit)
theorem st_storew {t u b n : Nat} {f : Nat → Value} {ty : TypeId} (he : s.tmps.getD t undef = .pointer (some ⟨b, 0, none⟩)) (hu : s.tmps.getD u undef = wv n) (hr : x.rowIs b 24 4 f)
  (hK : ∀ x', x'.rowIs b 24 4 (u64s (limb n)) → x' = (((x.setCell ⟨b, 0, none⟩ (.int .u64 (limb n 0))).setCell ⟨b, 1, none⟩ (.int .u64 (limb n 1))).setCell ⟨b, 2, none⟩ (.int .u64 (limb n 2))).setCell ⟨b, 3, none⟩ (.int .u64 (limb n 3)) → K (s.put none undef) x') :
  Oper.wp Tryz.prog ⟨none, .store 24 (.tmp t) (.tmp u), ty, pos, af, g⟩ s x K Q := by
 have he2 : s.eval (.tmp t) = .pointer (some ⟨b, 0, none⟩) := he
 have hu2 : s.eval (.tmp u) = wv n := hu
 have x0 := hr.cell (i := 0) (by omega)
 have x1 := hr.cell (i := 1) (by omega)
 have x2 := hr.cell (i := 2) (by omega)
 have x3 := hr.cell (i := 3) (by omega)
 have fz := hr.frozen
 have hrow := row_put4 hr (limb n) rfl rfl rfl rfl
 have h := hK _ hrow rfl
 clear hK hrow hr
 go_simp
 exact h
end
section
open Go.RowKit
set_option maxRecDepth 100000
theorem p5 {i : Nat} (h : i < 5) : i = 0 ∨ i = 1 ∨ i = 2 ∨ i = 3 ∨ i = 4 := by omega
theorem p6 {i : Nat} (h : i < 6) : i = 0 ∨ i = 1 ∨ i = 2 ∨ i = 3 ∨ i = 4 ∨ i = 5 := by omega
structure S1 (w : World) (a : Nat) (x : World) : Prop where
 ra : x.rowIs w.heap.size 24 4 (u64s (limb a))
 rz : x.rowIs (w.heap.size + 1) 24 4 (u64s fun _ => 0)
 be : Below w.heap.size w x
structure Q2 (w : World) (a b : Nat) (x : World) : Prop where
 ra : x.rowIs w.heap.size 24 4 (u64s (limb a))
 rb : x.rowIs (w.heap.size + 1) 24 4 (u64s (limb b))
 rz : ∃ f, x.rowIs (w.heap.size + 1 + 1) 24 4 f
 be : Below w.heap.size w x
end
section
open Go.RowKit
set_option maxRecDepth 100000
def fint (a m : Nat) : Nat := if a % M < m then a % M else m
end
section
end
section
open Go.RowKit
def shb (b : Nat) (n : Int) (fill : Bool) (i : Nat) : Bool := if 0 ≤ (i : Int) - n ∧ (i : Int) - n < 256 then b.testBit ((i : Int) - n).toNat else fill
end
section
open Go.RowKit
set_option maxRecDepth 100000
structure PR (w : World) (a b p q r : Nat) (x : World) : Prop where
 rp : x.rowIs p 4 256 (bools a.testBit)
 rq : x.rowIs q 4 256 (bools b.testBit)
 hp : p < r
 hq : q < r
 hr : w.heap.size ≤ r
 be : Below w.heap.size w x
end
section
open Go.RowKit
set_option maxRecDepth 100000
theorem p4 {i : Nat} (h : i < 4) : i = 0 ∨ i = 1 ∨ i = 2 ∨ i = 3 := by omega
def nt (s : ByteArray) : ByteArray := if decide (2 < s.size) && ((s.extract 0 2).toList == x0.toList) then s.extract 2 s.size else s
def nb (s : ByteArray) : Nat := if decide (2 < s.size) && ((s.extract 0 2).toList == x0.toList) then 16 else 10
def dgi (c b : Nat) : Int := if dgt c < b then (dgt c : Int) else -1
def hib (P k : Nat) : Bool := decide (M ≤ P % 2 ^ k)
structure RN (w : World) (z b n : Nat) (x : World) : Prop where
 rz : x.rowIs z 24 4 (u64s fun _ => 0)
 rn : x.rowIs b 24 4 (u64s (limb n))
 hz : w.heap.size ≤ z
 hzb : z < b
 be : Below w.heap.size w x
def numO (t : ByteArray) (b : Nat) (e : Ending) : Prop := match num t b with
 | none => ∃ r, e = .returned (.tuple #[wv r, .bool false, .bool false])
 | some (n, g) => e = .returned (.tuple #[wv n, .bool (decide (t.size ≠ 0)), .bool g])
end
section
open Go.RowKit
def nres (t : ByteArray) (b : Nat) : Option (Nat × Bool) := match num t b with
 | none => none
 | some (n, g) => if t.size = 0 then none else some (n, g)
theorem bl_inj {s t : ByteArray} (h : bl s = bl t) : s = t := by
 obtain ⟨⟨a⟩⟩ := s
 obtain ⟨⟨b⟩⟩ := t
 have e : a = b := h
 rw [e]
theorem x0_size : x0.size = 2 := rfl
theorem nums_agree (s : ByteArray) : nres (nt s) (nb s) = nres (cutP s x0) (rbase s) := by
 by_cases h2 : 2 < s.size
 ·have hp : pf s x0 = (decide (2 < s.size) && ((s.extract 0 2).toList == x0.toList)) := by
   unfold pf
   rw [x0_size, decide_eq_true (show 2 ≤ s.size by omega), decide_eq_true h2]
  have h1 : cutP s x0 = nt s := by unfold cutP nt; rw [hp]; rfl
  have h3 : rbase s = nb s := by unfold rbase nb; rw [hp]
  rw [h1, h3]
 ·have hn : nt s = s := by unfold nt; rw [decide_eq_false h2, Bool.false_and]; rfl
  have hb : nb s = 10 := by unfold nb; rw [decide_eq_false h2, Bool.false_and]; rfl
  cases hp : pf s x0
  ·have h1 : cutP s x0 = s := by unfold cutP; rw [hp]; rfl
   have h3 : rbase s = 10 := by unfold rbase; rw [hp]; rfl
   rw [h1, h3, hn, hb]
  ·have hpl := hp
   rw [pf_list, List.isPrefixOf_iff_prefix] at hpl
   have hle := hpl.length_le
   have hsz : (bl s).length = s.size := rfl
   have hx : (bl x0).length = 2 := rfl
   have he : bl x0 = bl s := hpl.eq_of_length (by omega)
   have hs : s = x0 := (bl_inj he).symm
   subst hs
   have a1 : nres (nt x0) (nb x0) = none := by
    rw [hn, hb]
    unfold nres
    have : num x0 10 = none := by unfold num; simp only [x0_size, numF]; decide
    rw [this]
   have a2 : nres (cutP x0 x0) (rbase x0) = none := by
    have hc : (cutP x0 x0).size = 0 := by unfold cutP; rw [hp, if_pos rfl, ByteArray.size_extract]; rfl
    unfold nres
    split
    ·rfl
    ·rw [if_pos hc]
   rw [a1, a2]
theorem rnum_nres (t : ByteArray) (b : Nat) : rnum t b = match nres t b with
 | none => (0, 2)
 | some (n, g) => if g then (0, 4) else (n, 0) := by
 unfold rnum nres
 cases num t b with
 | none => rfl
 | some p =>
  obtain ⟨n, g⟩ := p
  dsimp only
  by_cases h : t.size = 0
  ·rw [if_pos h, if_pos h]
  ·rw [if_neg h, if_neg h]
end
section
open Go.RowKit
set_option maxHeartbeats 8000000
set_option maxRecDepth 100000
def lk : List (List UInt8 × Nat) → List UInt8 → Option Nat
 | [], _ => none
 | (a, v) :: r, l => if l = a then some v else lk r l
theorem lk_hit {a l : List UInt8} {v : Nat} {r : List (List UInt8 × Nat)} (h : l = a) : lk ((a, v) :: r) l = some v := by unfold lk; rw [if_pos h]
theorem lk_miss {a l : List UInt8} {v : Nat} {r : List (List UInt8 × Nat)} (h : ¬ l = a) : lk ((a, v) :: r) l = lk r l := by rw [lk, if_neg h]
def pr (o : Option Nat) : Value := .tuple #[.int .u8 ((o.getD 0 : Nat) : Int), .bool o.isSome]
theorem eqb_true {s : ByteArray} {l : List UInt8} (h : bl s = l) : (s.toList == l) = true := by rw [Go.ByteArray.toList_eq]; exact beq_iff_eq.2 h
theorem eqb_false {s : ByteArray} {l : List UInt8} (h : ¬ bl s = l) : (s.toList == l) = false := by rw [Go.ByteArray.toList_eq]; exact beq_eq_false_iff_ne.2 h
def tabCmp : List (List UInt8 × Nat) := [([76, 84], 16), ([71, 84], 17), ([83, 76, 84], 18), ([83, 71, 84], 19), ([69, 81], 20), ([73, 83, 90, 69, 82, 79], 21), ([65, 78, 68], 22), ([79, 82], 23), ([88, 79, 82], 24), ([78, 79, 84], 25), ([66, 89, 84, 69], 26), ([83, 72, 76], 27), ([83, 72, 82], 28), ([83, 65, 82], 29)]
theorem Cmp_any (s : ByteArray) (hs : s.size ≤ 2000) (w : World) : Calls Tryz.prog 227 #[.string s] w fun e w' => e = .returned (pr (lk tabCmp (bl s))) ∧ w' = w := by
 by_cases h0 : bl s = [76, 84]
 ·as_aux_lemma =>
  have HR : Hid (lk tabCmp (bl s) = some 16) := by show _ = _; unfold tabCmp; rw [lk_hit h0]
  have e0 := eqb_true h0
  clear h0
  go_enter Tryz.func227, Tryz.ntmps227
  go_wp2
  go_ret2
  exact ⟨by rw [HR.out]; rfl, rfl⟩
 ·skip
  by_cases h1 : bl s = [71, 84]
  ·as_aux_lemma =>
   have HR : Hid (lk tabCmp (bl s) = some 17) := by show _ = _; unfold tabCmp; rw [lk_miss h0, lk_hit h1]
   have e0 := eqb_false h0
   have e1 := eqb_true h1
   clear h0 h1
   go_enter Tryz.func227, Tryz.ntmps227
   go_wp2
   go_ret2
   exact ⟨by rw [HR.out]; rfl, rfl⟩
  ·skip
   by_cases h2 : bl s = [83, 76, 84]
   ·as_aux_lemma =>
    have HR : Hid (lk tabCmp (bl s) = some 18) := by show _ = _; unfold tabCmp; rw [lk_miss h0, lk_miss h1, lk_hit h2]
    have e0 := eqb_false h0
    have e1 := eqb_false h1
    have e2 := eqb_true h2
    clear h0 h1 h2
    go_enter Tryz.func227, Tryz.ntmps227
    go_wp2
    go_ret2
    exact ⟨by rw [HR.out]; rfl, rfl⟩
   ·skip
    by_cases h3 : bl s = [83, 71, 84]
    ·as_aux_lemma =>
     have HR : Hid (lk tabCmp (bl s) = some 19) := by show _ = _; unfold tabCmp; rw [lk_miss h0, lk_miss h1, lk_miss h2, lk_hit h3]
     have e0 := eqb_false h0
     have e1 := eqb_false h1
     have e2 := eqb_false h2
     have e3 := eqb_true h3
     clear h0 h1 h2 h3
     go_enter Tryz.func227, Tryz.ntmps227
     go_wp2
     go_ret2
     exact ⟨by rw [HR.out]; rfl, rfl⟩
    ·skip
     by_cases h4 : bl s = [69, 81]
     ·as_aux_lemma =>
      have HR : Hid (lk tabCmp (bl s) = some 20) := by show _ = _; unfold tabCmp; rw [lk_miss h0, lk_miss h1, lk_miss h2, lk_miss h3, lk_hit h4]
      have e0 := eqb_false h0
      have e1 := eqb_false h1
      have e2 := eqb_false h2
      have e3 := eqb_false h3
      have e4 := eqb_true h4
      clear h0 h1 h2 h3 h4
      go_enter Tryz.func227, Tryz.ntmps227
      go_wp2
      go_ret2
      exact ⟨by rw [HR.out]; rfl, rfl⟩
     ·skip
      by_cases h5 : bl s = [73, 83, 90, 69, 82, 79]
      ·as_aux_lemma =>
       have HR : Hid (lk tabCmp (bl s) = some 21) := by show _ = _; unfold tabCmp; rw [lk_miss h0, lk_miss h1, lk_miss h2, lk_miss h3, lk_miss h4, lk_hit h5]
       have e0 := eqb_false h0
       have e1 := eqb_false h1
       have e2 := eqb_false h2
       have e3 := eqb_false h3
       have e4 := eqb_false h4
       have e5 := eqb_true h5
       clear h0 h1 h2 h3 h4 h5
       go_enter Tryz.func227, Tryz.ntmps227
       go_wp2
       go_ret2
       exact ⟨by rw [HR.out]; rfl, rfl⟩
      ·skip
       by_cases h6 : bl s = [65, 78, 68]
       ·as_aux_lemma =>
        have HR : Hid (lk tabCmp (bl s) = some 22) := by show _ = _; unfold tabCmp; rw [lk_miss h0, lk_miss h1, lk_miss h2, lk_miss h3, lk_miss h4, lk_miss h5, lk_hit h6]
        have e0 := eqb_false h0
        have e1 := eqb_false h1
        have e2 := eqb_false h2
        have e3 := eqb_false h3
        have e4 := eqb_false h4
        have e5 := eqb_false h5
        have e6 := eqb_true h6
        clear h0 h1 h2 h3 h4 h5 h6
        go_enter Tryz.func227, Tryz.ntmps227
        go_wp2
        go_ret2
        exact ⟨by rw [HR.out]; rfl, rfl⟩
       ·skip
        by_cases h7 : bl s = [79, 82]
        ·as_aux_lemma =>
         have HR : Hid (lk tabCmp (bl s) = some 23) := by show _ = _; unfold tabCmp; rw [lk_miss h0, lk_miss h1, lk_miss h2, lk_miss h3, lk_miss h4, lk_miss h5, lk_miss h6, lk_hit h7]
         have e0 := eqb_false h0
         have e1 := eqb_false h1
         have e2 := eqb_false h2
         have e3 := eqb_false h3
         have e4 := eqb_false h4
         have e5 := eqb_false h5
         have e6 := eqb_false h6
         have e7 := eqb_true h7
         clear h0 h1 h2 h3 h4 h5 h6 h7
         go_enter Tryz.func227, Tryz.ntmps227
         go_wp2
         go_ret2
         exact ⟨by rw [HR.out]; rfl, rfl⟩
        ·skip
         by_cases h8 : bl s = [88, 79, 82]
         ·as_aux_lemma =>
          have HR : Hid (lk tabCmp (bl s) = some 24) := by show _ = _; unfold tabCmp; rw [lk_miss h0, lk_miss h1, lk_miss h2, lk_miss h3, lk_miss h4, lk_miss h5, lk_miss h6, lk_miss h7, lk_hit h8]
          have e0 := eqb_false h0
          have e1 := eqb_false h1
          have e2 := eqb_false h2
          have e3 := eqb_false h3
          have e4 := eqb_false h4
          have e5 := eqb_false h5
          have e6 := eqb_false h6
          have e7 := eqb_false h7
          have e8 := eqb_true h8
          clear h0 h1 h2 h3 h4 h5 h6 h7 h8
          go_enter Tryz.func227, Tryz.ntmps227
          go_wp2
          go_ret2
          exact ⟨by rw [HR.out]; rfl, rfl⟩
         ·skip
          by_cases h9 : bl s = [78, 79, 84]
          ·as_aux_lemma =>
           have HR : Hid (lk tabCmp (bl s) = some 25) := by show _ = _; unfold tabCmp; rw [lk_miss h0, lk_miss h1, lk_miss h2, lk_miss h3, lk_miss h4, lk_miss h5, lk_miss h6, lk_miss h7, lk_miss h8, lk_hit h9]
           have e0 := eqb_false h0
           have e1 := eqb_false h1
           have e2 := eqb_false h2
           have e3 := eqb_false h3
           have e4 := eqb_false h4
           have e5 := eqb_false h5
           have e6 := eqb_false h6
           have e7 := eqb_false h7
           have e8 := eqb_false h8
           have e9 := eqb_true h9
           clear h0 h1 h2 h3 h4 h5 h6 h7 h8 h9
           go_enter Tryz.func227, Tryz.ntmps227
           go_wp2
           go_ret2
           exact ⟨by rw [HR.out]; rfl, rfl⟩
          ·skip
           by_cases h10 : bl s = [66, 89, 84, 69]
           ·as_aux_lemma =>
            have HR : Hid (lk tabCmp (bl s) = some 26) := by show _ = _; unfold tabCmp; rw [lk_miss h0, lk_miss h1, lk_miss h2, lk_miss h3, lk_miss h4, lk_miss h5, lk_miss h6, lk_miss h7, lk_miss h8, lk_miss h9, lk_hit h10]
            have e0 := eqb_false h0
            have e1 := eqb_false h1
            have e2 := eqb_false h2
            have e3 := eqb_false h3
            have e4 := eqb_false h4
            have e5 := eqb_false h5
            have e6 := eqb_false h6
            have e7 := eqb_false h7
            have e8 := eqb_false h8
            have e9 := eqb_false h9
            have e10 := eqb_true h10
            clear h0 h1 h2 h3 h4 h5 h6 h7 h8 h9 h10
            go_enter Tryz.func227, Tryz.ntmps227
            go_wp2
            go_ret2
            exact ⟨by rw [HR.out]; rfl, rfl⟩
           ·skip
            by_cases h11 : bl s = [83, 72, 76]
            ·as_aux_lemma =>
             have HR : Hid (lk tabCmp (bl s) = some 27) := by show _ = _; unfold tabCmp; rw [lk_miss h0, lk_miss h1, lk_miss h2, lk_miss h3, lk_miss h4, lk_miss h5, lk_miss h6, lk_miss h7, lk_miss h8, lk_miss h9, lk_miss h10, lk_hit h11]
             have e0 := eqb_false h0
             have e1 := eqb_false h1
             have e2 := eqb_false h2
             have e3 := eqb_false h3
             have e4 := eqb_false h4
             have e5 := eqb_false h5
             have e6 := eqb_false h6
             have e7 := eqb_false h7
             have e8 := eqb_false h8
             have e9 := eqb_false h9
             have e10 := eqb_false h10
             have e11 := eqb_true h11
             clear h0 h1 h2 h3 h4 h5 h6 h7 h8 h9 h10 h11
             go_enter Tryz.func227, Tryz.ntmps227
             go_wp2
             go_ret2
             exact ⟨by rw [HR.out]; rfl, rfl⟩
            ·skip
             by_cases h12 : bl s = [83, 72, 82]
             ·as_aux_lemma =>
              have HR : Hid (lk tabCmp (bl s) = some 28) := by show _ = _; unfold tabCmp; rw [lk_miss h0, lk_miss h1, lk_miss h2, lk_miss h3, lk_miss h4, lk_miss h5, lk_miss h6, lk_miss h7, lk_miss h8, lk_miss h9, lk_miss h10, lk_miss h11, lk_hit h12]
              have e0 := eqb_false h0
              have e1 := eqb_false h1
              have e2 := eqb_false h2
              have e3 := eqb_false h3
              have e4 := eqb_false h4
              have e5 := eqb_false h5
              have e6 := eqb_false h6
              have e7 := eqb_false h7
              have e8 := eqb_false h8
              have e9 := eqb_false h9
              have e10 := eqb_false h10
              have e11 := eqb_false h11
              have e12 := eqb_true h12
              clear h0 h1 h2 h3 h4 h5 h6 h7 h8 h9 h10 h11 h12
              go_enter Tryz.func227, Tryz.ntmps227
              go_wp2
              go_ret2
              exact ⟨by rw [HR.out]; rfl, rfl⟩
             ·skip
              by_cases h13 : bl s = [83, 65, 82]
              ·as_aux_lemma =>
               have HR : Hid (lk tabCmp (bl s) = some 29) := by show _ = _; unfold tabCmp; rw [lk_miss h0, lk_miss h1, lk_miss h2, lk_miss h3, lk_miss h4, lk_miss h5, lk_miss h6, lk_miss h7, lk_miss h8, lk_miss h9, lk_miss h10, lk_miss h11, lk_miss h12, lk_hit h13]
               have e0 := eqb_false h0
               have e1 := eqb_false h1
               have e2 := eqb_false h2
               have e3 := eqb_false h3
               have e4 := eqb_false h4
               have e5 := eqb_false h5
               have e6 := eqb_false h6
               have e7 := eqb_false h7
               have e8 := eqb_false h8
               have e9 := eqb_false h9
               have e10 := eqb_false h10
               have e11 := eqb_false h11
               have e12 := eqb_false h12
               have e13 := eqb_true h13
               clear h0 h1 h2 h3 h4 h5 h6 h7 h8 h9 h10 h11 h12 h13
               go_enter Tryz.func227, Tryz.ntmps227
               go_wp2
               go_ret2
               exact ⟨by rw [HR.out]; rfl, rfl⟩
              ·skip
               have HR : Hid (lk tabCmp (bl s) = none) := by show _ = _; unfold tabCmp; rw [lk_miss h0, lk_miss h1, lk_miss h2, lk_miss h3, lk_miss h4, lk_miss h5, lk_miss h6, lk_miss h7, lk_miss h8, lk_miss h9, lk_miss h10, lk_miss h11, lk_miss h12, lk_miss h13]; rfl
               have e0 := eqb_false h0
               have e1 := eqb_false h1
               have e2 := eqb_false h2
               have e3 := eqb_false h3
               have e4 := eqb_false h4
               have e5 := eqb_false h5
               have e6 := eqb_false h6
               have e7 := eqb_false h7
               have e8 := eqb_false h8
               have e9 := eqb_false h9
               have e10 := eqb_false h10
               have e11 := eqb_false h11
               have e12 := eqb_false h12
               have e13 := eqb_false h13
               clear h0 h1 h2 h3 h4 h5 h6 h7 h8 h9 h10 h11 h12 h13
               go_enter Tryz.func227, Tryz.ntmps227
               go_wp2
               go_ret2
               exact ⟨by rw [HR.out]; rfl, rfl⟩
def tabRec : List (List UInt8 × Nat) := [([65, 68, 68], 1), ([77, 85, 76], 2), ([83, 85, 66], 3), ([68, 73, 86], 4), ([83, 68, 73, 86], 5), ([77, 79, 68], 6), ([83, 77, 79, 68], 7), ([65, 68, 68, 77, 79, 68], 8), ([77, 85, 76, 77, 79, 68], 9), ([69, 88, 80], 10), ([83, 73, 71, 78, 69, 88, 84, 69, 78, 68], 11)]
theorem Rec_any (s : ByteArray) (hs : s.size ≤ 2000) (w : World) : Calls Tryz.prog 196 #[.string s] w fun e w' => e = .returned (pr ((lk tabRec (bl s)).orElse fun _ => lk tabCmp (bl s))) ∧ w' = w := by
 by_cases h0 : bl s = [65, 68, 68]
 ·as_aux_lemma =>
  have HR : Hid (lk tabRec (bl s) = some 1) := by show _ = _; unfold tabRec; rw [lk_hit h0]
  have e0 := eqb_true h0
  clear h0
  go_enter Tryz.func196, Tryz.ntmps196
  go_wp2
  go_ret2
  exact ⟨by rw [HR.out]; rfl, rfl⟩
 ·skip
  by_cases h1 : bl s = [77, 85, 76]
  ·as_aux_lemma =>
   have HR : Hid (lk tabRec (bl s) = some 2) := by show _ = _; unfold tabRec; rw [lk_miss h0, lk_hit h1]
   have e0 := eqb_false h0
   have e1 := eqb_true h1
   clear h0 h1
   go_enter Tryz.func196, Tryz.ntmps196
   go_wp2
   go_ret2
   exact ⟨by rw [HR.out]; rfl, rfl⟩
  ·skip
   by_cases h2 : bl s = [83, 85, 66]
   ·as_aux_lemma =>
    have HR : Hid (lk tabRec (bl s) = some 3) := by show _ = _; unfold tabRec; rw [lk_miss h0, lk_miss h1, lk_hit h2]
    have e0 := eqb_false h0
    have e1 := eqb_false h1
    have e2 := eqb_true h2
    clear h0 h1 h2
    go_enter Tryz.func196, Tryz.ntmps196
    go_wp2
    go_ret2
    exact ⟨by rw [HR.out]; rfl, rfl⟩
   ·skip
    by_cases h3 : bl s = [68, 73, 86]
    ·as_aux_lemma =>
     have HR : Hid (lk tabRec (bl s) = some 4) := by show _ = _; unfold tabRec; rw [lk_miss h0, lk_miss h1, lk_miss h2, lk_hit h3]
     have e0 := eqb_false h0
     have e1 := eqb_false h1
     have e2 := eqb_false h2
     have e3 := eqb_true h3
     clear h0 h1 h2 h3
     go_enter Tryz.func196, Tryz.ntmps196
     go_wp2
     go_ret2
     exact ⟨by rw [HR.out]; rfl, rfl⟩
    ·skip
     by_cases h4 : bl s = [83, 68, 73, 86]
     ·as_aux_lemma =>
      have HR : Hid (lk tabRec (bl s) = some 5) := by show _ = _; unfold tabRec; rw [lk_miss h0, lk_miss h1, lk_miss h2, lk_miss h3, lk_hit h4]
      have e0 := eqb_false h0
      have e1 := eqb_false h1
      have e2 := eqb_false h2
      have e3 := eqb_false h3
      have e4 := eqb_true h4
      clear h0 h1 h2 h3 h4
      go_enter Tryz.func196, Tryz.ntmps196
      go_wp2
      go_ret2
      exact ⟨by rw [HR.out]; rfl, rfl⟩
     ·skip
      by_cases h5 : bl s = [77, 79, 68]
      ·as_aux_lemma =>
       have HR : Hid (lk tabRec (bl s) = some 6) := by show _ = _; unfold tabRec; rw [lk_miss h0, lk_miss h1, lk_miss h2, lk_miss h3, lk_miss h4, lk_hit h5]
       have e0 := eqb_false h0
       have e1 := eqb_false h1
       have e2 := eqb_false h2
       have e3 := eqb_false h3
       have e4 := eqb_false h4
       have e5 := eqb_true h5
       clear h0 h1 h2 h3 h4 h5
       go_enter Tryz.func196, Tryz.ntmps196
       go_wp2
       go_ret2
       exact ⟨by rw [HR.out]; rfl, rfl⟩
      ·skip
       by_cases h6 : bl s = [83, 77, 79, 68]
       ·as_aux_lemma =>
        have HR : Hid (lk tabRec (bl s) = some 7) := by show _ = _; unfold tabRec; rw [lk_miss h0, lk_miss h1, lk_miss h2, lk_miss h3, lk_miss h4, lk_miss h5, lk_hit h6]
        have e0 := eqb_false h0
        have e1 := eqb_false h1
        have e2 := eqb_false h2
        have e3 := eqb_false h3
        have e4 := eqb_false h4
        have e5 := eqb_false h5
        have e6 := eqb_true h6
        clear h0 h1 h2 h3 h4 h5 h6
        go_enter Tryz.func196, Tryz.ntmps196
        go_wp2
        go_ret2
        exact ⟨by rw [HR.out]; rfl, rfl⟩
       ·skip
        by_cases h7 : bl s = [65, 68, 68, 77, 79, 68]
        ·as_aux_lemma =>
         have HR : Hid (lk tabRec (bl s) = some 8) := by show _ = _; unfold tabRec; rw [lk_miss h0, lk_miss h1, lk_miss h2, lk_miss h3, lk_miss h4, lk_miss h5, lk_miss h6, lk_hit h7]
         have e0 := eqb_false h0
         have e1 := eqb_false h1
         have e2 := eqb_false h2
         have e3 := eqb_false h3
         have e4 := eqb_false h4
         have e5 := eqb_false h5
         have e6 := eqb_false h6
         have e7 := eqb_true h7
         clear h0 h1 h2 h3 h4 h5 h6 h7
         go_enter Tryz.func196, Tryz.ntmps196
         go_wp2
         go_ret2
         exact ⟨by rw [HR.out]; rfl, rfl⟩
        ·skip
         by_cases h8 : bl s = [77, 85, 76, 77, 79, 68]
         ·as_aux_lemma =>
          have HR : Hid (lk tabRec (bl s) = some 9) := by show _ = _; unfold tabRec; rw [lk_miss h0, lk_miss h1, lk_miss h2, lk_miss h3, lk_miss h4, lk_miss h5, lk_miss h6, lk_miss h7, lk_hit h8]
          have e0 := eqb_false h0
          have e1 := eqb_false h1
          have e2 := eqb_false h2
          have e3 := eqb_false h3
          have e4 := eqb_false h4
          have e5 := eqb_false h5
          have e6 := eqb_false h6
          have e7 := eqb_false h7
          have e8 := eqb_true h8
          clear h0 h1 h2 h3 h4 h5 h6 h7 h8
          go_enter Tryz.func196, Tryz.ntmps196
          go_wp2
          go_ret2
          exact ⟨by rw [HR.out]; rfl, rfl⟩
         ·skip
          by_cases h9 : bl s = [69, 88, 80]
          ·as_aux_lemma =>
           have HR : Hid (lk tabRec (bl s) = some 10) := by show _ = _; unfold tabRec; rw [lk_miss h0, lk_miss h1, lk_miss h2, lk_miss h3, lk_miss h4, lk_miss h5, lk_miss h6, lk_miss h7, lk_miss h8, lk_hit h9]
           have e0 := eqb_false h0
           have e1 := eqb_false h1
           have e2 := eqb_false h2
           have e3 := eqb_false h3
           have e4 := eqb_false h4
           have e5 := eqb_false h5
           have e6 := eqb_false h6
           have e7 := eqb_false h7
           have e8 := eqb_false h8
           have e9 := eqb_true h9
           clear h0 h1 h2 h3 h4 h5 h6 h7 h8 h9
           go_enter Tryz.func196, Tryz.ntmps196
           go_wp2
           go_ret2
           exact ⟨by rw [HR.out]; rfl, rfl⟩
          ·skip
           by_cases h10 : bl s = [83, 73, 71, 78, 69, 88, 84, 69, 78, 68]
           ·as_aux_lemma =>
            have HR : Hid (lk tabRec (bl s) = some 11) := by show _ = _; unfold tabRec; rw [lk_miss h0, lk_miss h1, lk_miss h2, lk_miss h3, lk_miss h4, lk_miss h5, lk_miss h6, lk_miss h7, lk_miss h8, lk_miss h9, lk_hit h10]
            have e0 := eqb_false h0
            have e1 := eqb_false h1
            have e2 := eqb_false h2
            have e3 := eqb_false h3
            have e4 := eqb_false h4
            have e5 := eqb_false h5
            have e6 := eqb_false h6
            have e7 := eqb_false h7
            have e8 := eqb_false h8
            have e9 := eqb_false h9
            have e10 := eqb_true h10
            clear h0 h1 h2 h3 h4 h5 h6 h7 h8 h9 h10
            go_enter Tryz.func196, Tryz.ntmps196
            go_wp2
            go_ret2
            exact ⟨by rw [HR.out]; rfl, rfl⟩
           ·skip
            have HR : Hid (lk tabRec (bl s) = none) := by show _ = _; unfold tabRec; rw [lk_miss h0, lk_miss h1, lk_miss h2, lk_miss h3, lk_miss h4, lk_miss h5, lk_miss h6, lk_miss h7, lk_miss h8, lk_miss h9, lk_miss h10]; rfl
            have e0 := eqb_false h0
            have e1 := eqb_false h1
            have e2 := eqb_false h2
            have e3 := eqb_false h3
            have e4 := eqb_false h4
            have e5 := eqb_false h5
            have e6 := eqb_false h6
            have e7 := eqb_false h7
            have e8 := eqb_false h8
            have e9 := eqb_false h9
            have e10 := eqb_false h10
            clear h0 h1 h2 h3 h4 h5 h6 h7 h8 h9 h10
            go_enter Tryz.func196, Tryz.ntmps196
            go_wp2_with fail
            refine (Cmp_any s hs _).mono ?_
            rintro e w' ⟨rfl, rfl⟩
            obtain ⟨o, HO⟩ : ∃ o, Hid (o = lk tabCmp (bl s)) := ⟨_, rfl⟩
            rw [← HO.out]
            unfold pr
            go_wp2
            go_ret2
            exact ⟨by rw [HR.out, ← HO.out]; rfl, rfl⟩
def tabSur : List (List UInt8 × Nat) := [([83, 84, 79, 80], 0), ([65, 68, 68, 82, 69, 83, 83], 48), ([66, 65, 76, 65, 78, 67, 69], 49), ([67, 65, 76, 76, 69, 82], 51), ([67, 65, 76, 76, 86, 65, 76, 85, 69], 52), ([67, 65, 76, 76, 68, 65, 84, 65, 76, 79, 65, 68], 53), ([67, 65, 76, 76, 68, 65, 84, 65, 83, 73, 90, 69], 54), ([67, 65, 76, 76, 68, 65, 84, 65, 67, 79, 80, 89], 55), ([67, 79, 68, 69, 83, 73, 90, 69], 56), ([67, 79, 68, 69, 67, 79, 80, 89], 57), ([82, 69, 84, 85, 82, 78, 68, 65, 84, 65, 83, 73, 90, 69], 61), ([82, 69, 84, 85, 82, 78, 68, 65, 84, 65, 67, 79, 80, 89], 62), ([67, 65, 76, 76], 241), ([82, 69, 84, 85, 82, 78], 243), ([68, 69, 76, 69, 71, 65, 84, 69, 67, 65, 76, 76], 244), ([83, 84, 65, 84, 73, 67, 67, 65, 76, 76], 250), ([82, 69, 86, 69, 82, 84], 253)]
theorem Sur_any (s : ByteArray) (hs : s.size ≤ 2000) (w : World) : Calls Tryz.prog 197 #[.string s] w fun e w' => e = .returned (pr (lk tabSur (bl s))) ∧ w' = w := by
 by_cases h0 : bl s = [83, 84, 79, 80]
 ·as_aux_lemma =>
  have HR : Hid (lk tabSur (bl s) = some 0) := by show _ = _; unfold tabSur; rw [lk_hit h0]
  have e0 := eqb_true h0
  clear h0
  go_enter Tryz.func197, Tryz.ntmps197
  go_wp2
  go_ret2
  exact ⟨by rw [HR.out]; rfl, rfl⟩
 ·skip
  by_cases h1 : bl s = [65, 68, 68, 82, 69, 83, 83]
  ·as_aux_lemma =>
   have HR : Hid (lk tabSur (bl s) = some 48) := by show _ = _; unfold tabSur; rw [lk_miss h0, lk_hit h1]
   have e0 := eqb_false h0
   have e1 := eqb_true h1
   clear h0 h1
   go_enter Tryz.func197, Tryz.ntmps197
   go_wp2
   go_ret2
   exact ⟨by rw [HR.out]; rfl, rfl⟩
  ·skip
   by_cases h2 : bl s = [66, 65, 76, 65, 78, 67, 69]
   ·as_aux_lemma =>
    have HR : Hid (lk tabSur (bl s) = some 49) := by show _ = _; unfold tabSur; rw [lk_miss h0, lk_miss h1, lk_hit h2]
    have e0 := eqb_false h0
    have e1 := eqb_false h1
    have e2 := eqb_true h2
    clear h0 h1 h2
    go_enter Tryz.func197, Tryz.ntmps197
    go_wp2
    go_ret2
    exact ⟨by rw [HR.out]; rfl, rfl⟩
   ·skip
    by_cases h3 : bl s = [67, 65, 76, 76, 69, 82]
    ·as_aux_lemma =>
     have HR : Hid (lk tabSur (bl s) = some 51) := by show _ = _; unfold tabSur; rw [lk_miss h0, lk_miss h1, lk_miss h2, lk_hit h3]
     have e0 := eqb_false h0
     have e1 := eqb_false h1
     have e2 := eqb_false h2
     have e3 := eqb_true h3
     clear h0 h1 h2 h3
     go_enter Tryz.func197, Tryz.ntmps197
     go_wp2
     go_ret2
     exact ⟨by rw [HR.out]; rfl, rfl⟩
    ·skip
     by_cases h4 : bl s = [67, 65, 76, 76, 86, 65, 76, 85, 69]
     ·as_aux_lemma =>
      have HR : Hid (lk tabSur (bl s) = some 52) := by show _ = _; unfold tabSur; rw [lk_miss h0, lk_miss h1, lk_miss h2, lk_miss h3, lk_hit h4]
      have e0 := eqb_false h0
      have e1 := eqb_false h1
      have e2 := eqb_false h2
      have e3 := eqb_false h3
      have e4 := eqb_true h4
      clear h0 h1 h2 h3 h4
      go_enter Tryz.func197, Tryz.ntmps197
      go_wp2
      go_ret2
      exact ⟨by rw [HR.out]; rfl, rfl⟩
     ·skip
      by_cases h5 : bl s = [67, 65, 76, 76, 68, 65, 84, 65, 76, 79, 65, 68]
      ·as_aux_lemma =>
       have HR : Hid (lk tabSur (bl s) = some 53) := by show _ = _; unfold tabSur; rw [lk_miss h0, lk_miss h1, lk_miss h2, lk_miss h3, lk_miss h4, lk_hit h5]
       have e0 := eqb_false h0
       have e1 := eqb_false h1
       have e2 := eqb_false h2
       have e3 := eqb_false h3
       have e4 := eqb_false h4
       have e5 := eqb_true h5
       clear h0 h1 h2 h3 h4 h5
       go_enter Tryz.func197, Tryz.ntmps197
       go_wp2
       go_ret2
       exact ⟨by rw [HR.out]; rfl, rfl⟩
      ·skip
       by_cases h6 : bl s = [67, 65, 76, 76, 68, 65, 84, 65, 83, 73, 90, 69]
       ·as_aux_lemma =>
        have HR : Hid (lk tabSur (bl s) = some 54) := by show _ = _; unfold tabSur; rw [lk_miss h0, lk_miss h1, lk_miss h2, lk_miss h3, lk_miss h4, lk_miss h5, lk_hit h6]
        have e0 := eqb_false h0
        have e1 := eqb_false h1
        have e2 := eqb_false h2
        have e3 := eqb_false h3
        have e4 := eqb_false h4
        have e5 := eqb_false h5
        have e6 := eqb_true h6
        clear h0 h1 h2 h3 h4 h5 h6
        go_enter Tryz.func197, Tryz.ntmps197
        go_wp2
        go_ret2
        exact ⟨by rw [HR.out]; rfl, rfl⟩
       ·skip
        by_cases h7 : bl s = [67, 65, 76, 76, 68, 65, 84, 65, 67, 79, 80, 89]
        ·as_aux_lemma =>
         have HR : Hid (lk tabSur (bl s) = some 55) := by show _ = _; unfold tabSur; rw [lk_miss h0, lk_miss h1, lk_miss h2, lk_miss h3, lk_miss h4, lk_miss h5, lk_miss h6, lk_hit h7]
         have e0 := eqb_false h0
         have e1 := eqb_false h1
         have e2 := eqb_false h2
         have e3 := eqb_false h3
         have e4 := eqb_false h4
         have e5 := eqb_false h5
         have e6 := eqb_false h6
         have e7 := eqb_true h7
         clear h0 h1 h2 h3 h4 h5 h6 h7
         go_enter Tryz.func197, Tryz.ntmps197
         go_wp2
         go_ret2
         exact ⟨by rw [HR.out]; rfl, rfl⟩
        ·skip
         by_cases h8 : bl s = [67, 79, 68, 69, 83, 73, 90, 69]
         ·as_aux_lemma =>
          have HR : Hid (lk tabSur (bl s) = some 56) := by show _ = _; unfold tabSur; rw [lk_miss h0, lk_miss h1, lk_miss h2, lk_miss h3, lk_miss h4, lk_miss h5, lk_miss h6, lk_miss h7, lk_hit h8]
          have e0 := eqb_false h0
          have e1 := eqb_false h1
          have e2 := eqb_false h2
          have e3 := eqb_false h3
          have e4 := eqb_false h4
          have e5 := eqb_false h5
          have e6 := eqb_false h6
          have e7 := eqb_false h7
          have e8 := eqb_true h8
          clear h0 h1 h2 h3 h4 h5 h6 h7 h8
          go_enter Tryz.func197, Tryz.ntmps197
          go_wp2
          go_ret2
          exact ⟨by rw [HR.out]; rfl, rfl⟩
         ·skip
          by_cases h9 : bl s = [67, 79, 68, 69, 67, 79, 80, 89]
          ·as_aux_lemma =>
           have HR : Hid (lk tabSur (bl s) = some 57) := by show _ = _; unfold tabSur; rw [lk_miss h0, lk_miss h1, lk_miss h2, lk_miss h3, lk_miss h4, lk_miss h5, lk_miss h6, lk_miss h7, lk_miss h8, lk_hit h9]
           have e0 := eqb_false h0
           have e1 := eqb_false h1
           have e2 := eqb_false h2
           have e3 := eqb_false h3
           have e4 := eqb_false h4
           have e5 := eqb_false h5
           have e6 := eqb_false h6
           have e7 := eqb_false h7
           have e8 := eqb_false h8
           have e9 := eqb_true h9
           clear h0 h1 h2 h3 h4 h5 h6 h7 h8 h9
           go_enter Tryz.func197, Tryz.ntmps197
           go_wp2
           go_ret2
           exact ⟨by rw [HR.out]; rfl, rfl⟩
          ·skip
           by_cases h10 : bl s = [82, 69, 84, 85, 82, 78, 68, 65, 84, 65, 83, 73, 90, 69]
           ·as_aux_lemma =>
            have HR : Hid (lk tabSur (bl s) = some 61) := by show _ = _; unfold tabSur; rw [lk_miss h0, lk_miss h1, lk_miss h2, lk_miss h3, lk_miss h4, lk_miss h5, lk_miss h6, lk_miss h7, lk_miss h8, lk_miss h9, lk_hit h10]
            have e0 := eqb_false h0
            have e1 := eqb_false h1
            have e2 := eqb_false h2
            have e3 := eqb_false h3
            have e4 := eqb_false h4
            have e5 := eqb_false h5
            have e6 := eqb_false h6
            have e7 := eqb_false h7
            have e8 := eqb_false h8
            have e9 := eqb_false h9
            have e10 := eqb_true h10
            clear h0 h1 h2 h3 h4 h5 h6 h7 h8 h9 h10
            go_enter Tryz.func197, Tryz.ntmps197
            go_wp2
            go_ret2
            exact ⟨by rw [HR.out]; rfl, rfl⟩
           ·skip
            by_cases h11 : bl s = [82, 69, 84, 85, 82, 78, 68, 65, 84, 65, 67, 79, 80, 89]
            ·as_aux_lemma =>
             have HR : Hid (lk tabSur (bl s) = some 62) := by show _ = _; unfold tabSur; rw [lk_miss h0, lk_miss h1, lk_miss h2, lk_miss h3, lk_miss h4, lk_miss h5, lk_miss h6, lk_miss h7, lk_miss h8, lk_miss h9, lk_miss h10, lk_hit h11]
             have e0 := eqb_false h0
             have e1 := eqb_false h1
             have e2 := eqb_false h2
             have e3 := eqb_false h3
             have e4 := eqb_false h4
             have e5 := eqb_false h5
             have e6 := eqb_false h6
             have e7 := eqb_false h7
             have e8 := eqb_false h8
             have e9 := eqb_false h9
             have e10 := eqb_false h10
             have e11 := eqb_true h11
             clear h0 h1 h2 h3 h4 h5 h6 h7 h8 h9 h10 h11
             go_enter Tryz.func197, Tryz.ntmps197
             go_wp2
             go_ret2
             exact ⟨by rw [HR.out]; rfl, rfl⟩
            ·skip
             by_cases h12 : bl s = [67, 65, 76, 76]
             ·as_aux_lemma =>
              have HR : Hid (lk tabSur (bl s) = some 241) := by show _ = _; unfold tabSur; rw [lk_miss h0, lk_miss h1, lk_miss h2, lk_miss h3, lk_miss h4, lk_miss h5, lk_miss h6, lk_miss h7, lk_miss h8, lk_miss h9, lk_miss h10, lk_miss h11, lk_hit h12]
              have e0 := eqb_false h0
              have e1 := eqb_false h1
              have e2 := eqb_false h2
              have e3 := eqb_false h3
              have e4 := eqb_false h4
              have e5 := eqb_false h5
              have e6 := eqb_false h6
              have e7 := eqb_false h7
              have e8 := eqb_false h8
              have e9 := eqb_false h9
              have e10 := eqb_false h10
              have e11 := eqb_false h11
              have e12 := eqb_true h12
              clear h0 h1 h2 h3 h4 h5 h6 h7 h8 h9 h10 h11 h12
              go_enter Tryz.func197, Tryz.ntmps197
              go_wp2
              go_ret2
              exact ⟨by rw [HR.out]; rfl, rfl⟩
             ·skip
              by_cases h13 : bl s = [82, 69, 84, 85, 82, 78]
              ·as_aux_lemma =>
               have HR : Hid (lk tabSur (bl s) = some 243) := by show _ = _; unfold tabSur; rw [lk_miss h0, lk_miss h1, lk_miss h2, lk_miss h3, lk_miss h4, lk_miss h5, lk_miss h6, lk_miss h7, lk_miss h8, lk_miss h9, lk_miss h10, lk_miss h11, lk_miss h12, lk_hit h13]
               have e0 := eqb_false h0
               have e1 := eqb_false h1
               have e2 := eqb_false h2
               have e3 := eqb_false h3
               have e4 := eqb_false h4
               have e5 := eqb_false h5
               have e6 := eqb_false h6
               have e7 := eqb_false h7
               have e8 := eqb_false h8
               have e9 := eqb_false h9
               have e10 := eqb_false h10
               have e11 := eqb_false h11
               have e12 := eqb_false h12
               have e13 := eqb_true h13
               clear h0 h1 h2 h3 h4 h5 h6 h7 h8 h9 h10 h11 h12 h13
               go_enter Tryz.func197, Tryz.ntmps197
               go_wp2
               go_ret2
               exact ⟨by rw [HR.out]; rfl, rfl⟩
              ·skip
               by_cases h14 : bl s = [68, 69, 76, 69, 71, 65, 84, 69, 67, 65, 76, 76]
               ·as_aux_lemma =>
                have HR : Hid (lk tabSur (bl s) = some 244) := by show _ = _; unfold tabSur; rw [lk_miss h0, lk_miss h1, lk_miss h2, lk_miss h3, lk_miss h4, lk_miss h5, lk_miss h6, lk_miss h7, lk_miss h8, lk_miss h9, lk_miss h10, lk_miss h11, lk_miss h12, lk_miss h13, lk_hit h14]
                have e0 := eqb_false h0
                have e1 := eqb_false h1
                have e2 := eqb_false h2
                have e3 := eqb_false h3
                have e4 := eqb_false h4
                have e5 := eqb_false h5
                have e6 := eqb_false h6
                have e7 := eqb_false h7
                have e8 := eqb_false h8
                have e9 := eqb_false h9
                have e10 := eqb_false h10
                have e11 := eqb_false h11
                have e12 := eqb_false h12
                have e13 := eqb_false h13
                have e14 := eqb_true h14
                clear h0 h1 h2 h3 h4 h5 h6 h7 h8 h9 h10 h11 h12 h13 h14
                go_enter Tryz.func197, Tryz.ntmps197
                go_wp2
                go_ret2
                exact ⟨by rw [HR.out]; rfl, rfl⟩
               ·skip
                by_cases h15 : bl s = [83, 84, 65, 84, 73, 67, 67, 65, 76, 76]
                ·as_aux_lemma =>
                 have HR : Hid (lk tabSur (bl s) = some 250) := by show _ = _; unfold tabSur; rw [lk_miss h0, lk_miss h1, lk_miss h2, lk_miss h3, lk_miss h4, lk_miss h5, lk_miss h6, lk_miss h7, lk_miss h8, lk_miss h9, lk_miss h10, lk_miss h11, lk_miss h12, lk_miss h13, lk_miss h14, lk_hit h15]
                 have e0 := eqb_false h0
                 have e1 := eqb_false h1
                 have e2 := eqb_false h2
                 have e3 := eqb_false h3
                 have e4 := eqb_false h4
                 have e5 := eqb_false h5
                 have e6 := eqb_false h6
                 have e7 := eqb_false h7
                 have e8 := eqb_false h8
                 have e9 := eqb_false h9
                 have e10 := eqb_false h10
                 have e11 := eqb_false h11
                 have e12 := eqb_false h12
                 have e13 := eqb_false h13
                 have e14 := eqb_false h14
                 have e15 := eqb_true h15
                 clear h0 h1 h2 h3 h4 h5 h6 h7 h8 h9 h10 h11 h12 h13 h14 h15
                 go_enter Tryz.func197, Tryz.ntmps197
                 go_wp2
                 go_ret2
                 exact ⟨by rw [HR.out]; rfl, rfl⟩
                ·skip
                 by_cases h16 : bl s = [82, 69, 86, 69, 82, 84]
                 ·as_aux_lemma =>
                  have HR : Hid (lk tabSur (bl s) = some 253) := by show _ = _; unfold tabSur; rw [lk_miss h0, lk_miss h1, lk_miss h2, lk_miss h3, lk_miss h4, lk_miss h5, lk_miss h6, lk_miss h7, lk_miss h8, lk_miss h9, lk_miss h10, lk_miss h11, lk_miss h12, lk_miss h13, lk_miss h14, lk_miss h15, lk_hit h16]
                  have e0 := eqb_false h0
                  have e1 := eqb_false h1
                  have e2 := eqb_false h2
                  have e3 := eqb_false h3
                  have e4 := eqb_false h4
                  have e5 := eqb_false h5
                  have e6 := eqb_false h6
                  have e7 := eqb_false h7
                  have e8 := eqb_false h8
                  have e9 := eqb_false h9
                  have e10 := eqb_false h10
                  have e11 := eqb_false h11
                  have e12 := eqb_false h12
                  have e13 := eqb_false h13
                  have e14 := eqb_false h14
                  have e15 := eqb_false h15
                  have e16 := eqb_true h16
                  clear h0 h1 h2 h3 h4 h5 h6 h7 h8 h9 h10 h11 h12 h13 h14 h15 h16
                  go_enter Tryz.func197, Tryz.ntmps197
                  go_wp2
                  go_ret2
                  exact ⟨by rw [HR.out]; rfl, rfl⟩
                 ·skip
                  have HR : Hid (lk tabSur (bl s) = none) := by show _ = _; unfold tabSur; rw [lk_miss h0, lk_miss h1, lk_miss h2, lk_miss h3, lk_miss h4, lk_miss h5, lk_miss h6, lk_miss h7, lk_miss h8, lk_miss h9, lk_miss h10, lk_miss h11, lk_miss h12, lk_miss h13, lk_miss h14, lk_miss h15, lk_miss h16]; rfl
                  have e0 := eqb_false h0
                  have e1 := eqb_false h1
                  have e2 := eqb_false h2
                  have e3 := eqb_false h3
                  have e4 := eqb_false h4
                  have e5 := eqb_false h5
                  have e6 := eqb_false h6
                  have e7 := eqb_false h7
                  have e8 := eqb_false h8
                  have e9 := eqb_false h9
                  have e10 := eqb_false h10
                  have e11 := eqb_false h11
                  have e12 := eqb_false h12
                  have e13 := eqb_false h13
                  have e14 := eqb_false h14
                  have e15 := eqb_false h15
                  have e16 := eqb_false h16
                  clear h0 h1 h2 h3 h4 h5 h6 h7 h8 h9 h10 h11 h12 h13 h14 h15 h16
                  go_enter Tryz.func197, Tryz.ntmps197
                  go_wp2
                  go_ret2
                  exact ⟨by rw [HR.out]; rfl, rfl⟩
def tabKee : List (List UInt8 × Nat) := [([80, 79, 80], 80), ([77, 76, 79, 65, 68], 81), ([77, 83, 84, 79, 82, 69], 82), ([77, 83, 84, 79, 82, 69, 56], 83), ([83, 76, 79, 65, 68], 84), ([83, 83, 84, 79, 82, 69], 85), ([74, 85, 77, 80], 86), ([74, 85, 77, 80, 73], 87), ([80, 67], 88), ([77, 83, 73, 90, 69], 89), ([71, 65, 83], 90), ([74, 85, 77, 80, 68, 69, 83, 84], 91), ([84, 76, 79, 65, 68], 92), ([84, 83, 84, 79, 82, 69], 93), ([77, 67, 79, 80, 89], 94)]
theorem Kee_any (s : ByteArray) (hs : s.size ≤ 2000) (w : World) : Calls Tryz.prog 198 #[.string s] w fun e w' => e = .returned (pr (lk tabKee (bl s))) ∧ w' = w := by
 by_cases h0 : bl s = [80, 79, 80]
 ·as_aux_lemma =>
  have HR : Hid (lk tabKee (bl s) = some 80) := by show _ = _; unfold tabKee; rw [lk_hit h0]
  have e0 := eqb_true h0
  clear h0
  go_enter Tryz.func198, Tryz.ntmps198
  go_wp2
  go_ret2
  exact ⟨by rw [HR.out]; rfl, rfl⟩
 ·skip
  by_cases h1 : bl s = [77, 76, 79, 65, 68]
  ·as_aux_lemma =>
   have HR : Hid (lk tabKee (bl s) = some 81) := by show _ = _; unfold tabKee; rw [lk_miss h0, lk_hit h1]
   have e0 := eqb_false h0
   have e1 := eqb_true h1
   clear h0 h1
   go_enter Tryz.func198, Tryz.ntmps198
   go_wp2
   go_ret2
   exact ⟨by rw [HR.out]; rfl, rfl⟩
  ·skip
   by_cases h2 : bl s = [77, 83, 84, 79, 82, 69]
   ·as_aux_lemma =>
    have HR : Hid (lk tabKee (bl s) = some 82) := by show _ = _; unfold tabKee; rw [lk_miss h0, lk_miss h1, lk_hit h2]
    have e0 := eqb_false h0
    have e1 := eqb_false h1
    have e2 := eqb_true h2
    clear h0 h1 h2
    go_enter Tryz.func198, Tryz.ntmps198
    go_wp2
    go_ret2
    exact ⟨by rw [HR.out]; rfl, rfl⟩
   ·skip
    by_cases h3 : bl s = [77, 83, 84, 79, 82, 69, 56]
    ·as_aux_lemma =>
     have HR : Hid (lk tabKee (bl s) = some 83) := by show _ = _; unfold tabKee; rw [lk_miss h0, lk_miss h1, lk_miss h2, lk_hit h3]
     have e0 := eqb_false h0
     have e1 := eqb_false h1
     have e2 := eqb_false h2
     have e3 := eqb_true h3
     clear h0 h1 h2 h3
     go_enter Tryz.func198, Tryz.ntmps198
     go_wp2
     go_ret2
     exact ⟨by rw [HR.out]; rfl, rfl⟩
    ·skip
     by_cases h4 : bl s = [83, 76, 79, 65, 68]
     ·as_aux_lemma =>
      have HR : Hid (lk tabKee (bl s) = some 84) := by show _ = _; unfold tabKee; rw [lk_miss h0, lk_miss h1, lk_miss h2, lk_miss h3, lk_hit h4]
      have e0 := eqb_false h0
      have e1 := eqb_false h1
      have e2 := eqb_false h2
      have e3 := eqb_false h3
      have e4 := eqb_true h4
      clear h0 h1 h2 h3 h4
      go_enter Tryz.func198, Tryz.ntmps198
      go_wp2
      go_ret2
      exact ⟨by rw [HR.out]; rfl, rfl⟩
     ·skip
      by_cases h5 : bl s = [83, 83, 84, 79, 82, 69]
      ·as_aux_lemma =>
       have HR : Hid (lk tabKee (bl s) = some 85) := by show _ = _; unfold tabKee; rw [lk_miss h0, lk_miss h1, lk_miss h2, lk_miss h3, lk_miss h4, lk_hit h5]
       have e0 := eqb_false h0
       have e1 := eqb_false h1
       have e2 := eqb_false h2
       have e3 := eqb_false h3
       have e4 := eqb_false h4
       have e5 := eqb_true h5
       clear h0 h1 h2 h3 h4 h5
       go_enter Tryz.func198, Tryz.ntmps198
       go_wp2
       go_ret2
       exact ⟨by rw [HR.out]; rfl, rfl⟩
      ·skip
       by_cases h6 : bl s = [74, 85, 77, 80]
       ·as_aux_lemma =>
        have HR : Hid (lk tabKee (bl s) = some 86) := by show _ = _; unfold tabKee; rw [lk_miss h0, lk_miss h1, lk_miss h2, lk_miss h3, lk_miss h4, lk_miss h5, lk_hit h6]
        have e0 := eqb_false h0
        have e1 := eqb_false h1
        have e2 := eqb_false h2
        have e3 := eqb_false h3
        have e4 := eqb_false h4
        have e5 := eqb_false h5
        have e6 := eqb_true h6
        clear h0 h1 h2 h3 h4 h5 h6
        go_enter Tryz.func198, Tryz.ntmps198
        go_wp2
        go_ret2
        exact ⟨by rw [HR.out]; rfl, rfl⟩
       ·skip
        by_cases h7 : bl s = [74, 85, 77, 80, 73]
        ·as_aux_lemma =>
         have HR : Hid (lk tabKee (bl s) = some 87) := by show _ = _; unfold tabKee; rw [lk_miss h0, lk_miss h1, lk_miss h2, lk_miss h3, lk_miss h4, lk_miss h5, lk_miss h6, lk_hit h7]
         have e0 := eqb_false h0
         have e1 := eqb_false h1
         have e2 := eqb_false h2
         have e3 := eqb_false h3
         have e4 := eqb_false h4
         have e5 := eqb_false h5
         have e6 := eqb_false h6
         have e7 := eqb_true h7
         clear h0 h1 h2 h3 h4 h5 h6 h7
         go_enter Tryz.func198, Tryz.ntmps198
         go_wp2
         go_ret2
         exact ⟨by rw [HR.out]; rfl, rfl⟩
        ·skip
         by_cases h8 : bl s = [80, 67]
         ·as_aux_lemma =>
          have HR : Hid (lk tabKee (bl s) = some 88) := by show _ = _; unfold tabKee; rw [lk_miss h0, lk_miss h1, lk_miss h2, lk_miss h3, lk_miss h4, lk_miss h5, lk_miss h6, lk_miss h7, lk_hit h8]
          have e0 := eqb_false h0
          have e1 := eqb_false h1
          have e2 := eqb_false h2
          have e3 := eqb_false h3
          have e4 := eqb_false h4
          have e5 := eqb_false h5
          have e6 := eqb_false h6
          have e7 := eqb_false h7
          have e8 := eqb_true h8
          clear h0 h1 h2 h3 h4 h5 h6 h7 h8
          go_enter Tryz.func198, Tryz.ntmps198
          go_wp2
          go_ret2
          exact ⟨by rw [HR.out]; rfl, rfl⟩
         ·skip
          by_cases h9 : bl s = [77, 83, 73, 90, 69]
          ·as_aux_lemma =>
           have HR : Hid (lk tabKee (bl s) = some 89) := by show _ = _; unfold tabKee; rw [lk_miss h0, lk_miss h1, lk_miss h2, lk_miss h3, lk_miss h4, lk_miss h5, lk_miss h6, lk_miss h7, lk_miss h8, lk_hit h9]
           have e0 := eqb_false h0
           have e1 := eqb_false h1
           have e2 := eqb_false h2
           have e3 := eqb_false h3
           have e4 := eqb_false h4
           have e5 := eqb_false h5
           have e6 := eqb_false h6
           have e7 := eqb_false h7
           have e8 := eqb_false h8
           have e9 := eqb_true h9
           clear h0 h1 h2 h3 h4 h5 h6 h7 h8 h9
           go_enter Tryz.func198, Tryz.ntmps198
           go_wp2
           go_ret2
           exact ⟨by rw [HR.out]; rfl, rfl⟩
          ·skip
           by_cases h10 : bl s = [71, 65, 83]
           ·as_aux_lemma =>
            have HR : Hid (lk tabKee (bl s) = some 90) := by show _ = _; unfold tabKee; rw [lk_miss h0, lk_miss h1, lk_miss h2, lk_miss h3, lk_miss h4, lk_miss h5, lk_miss h6, lk_miss h7, lk_miss h8, lk_miss h9, lk_hit h10]
            have e0 := eqb_false h0
            have e1 := eqb_false h1
            have e2 := eqb_false h2
            have e3 := eqb_false h3
            have e4 := eqb_false h4
            have e5 := eqb_false h5
            have e6 := eqb_false h6
            have e7 := eqb_false h7
            have e8 := eqb_false h8
            have e9 := eqb_false h9
            have e10 := eqb_true h10
            clear h0 h1 h2 h3 h4 h5 h6 h7 h8 h9 h10
            go_enter Tryz.func198, Tryz.ntmps198
            go_wp2
            go_ret2
            exact ⟨by rw [HR.out]; rfl, rfl⟩
           ·skip
            by_cases h11 : bl s = [74, 85, 77, 80, 68, 69, 83, 84]
            ·as_aux_lemma =>
             have HR : Hid (lk tabKee (bl s) = some 91) := by show _ = _; unfold tabKee; rw [lk_miss h0, lk_miss h1, lk_miss h2, lk_miss h3, lk_miss h4, lk_miss h5, lk_miss h6, lk_miss h7, lk_miss h8, lk_miss h9, lk_miss h10, lk_hit h11]
             have e0 := eqb_false h0
             have e1 := eqb_false h1
             have e2 := eqb_false h2
             have e3 := eqb_false h3
             have e4 := eqb_false h4
             have e5 := eqb_false h5
             have e6 := eqb_false h6
             have e7 := eqb_false h7
             have e8 := eqb_false h8
             have e9 := eqb_false h9
             have e10 := eqb_false h10
             have e11 := eqb_true h11
             clear h0 h1 h2 h3 h4 h5 h6 h7 h8 h9 h10 h11
             go_enter Tryz.func198, Tryz.ntmps198
             go_wp2
             go_ret2
             exact ⟨by rw [HR.out]; rfl, rfl⟩
            ·skip
             by_cases h12 : bl s = [84, 76, 79, 65, 68]
             ·as_aux_lemma =>
              have HR : Hid (lk tabKee (bl s) = some 92) := by show _ = _; unfold tabKee; rw [lk_miss h0, lk_miss h1, lk_miss h2, lk_miss h3, lk_miss h4, lk_miss h5, lk_miss h6, lk_miss h7, lk_miss h8, lk_miss h9, lk_miss h10, lk_miss h11, lk_hit h12]
              have e0 := eqb_false h0
              have e1 := eqb_false h1
              have e2 := eqb_false h2
              have e3 := eqb_false h3
              have e4 := eqb_false h4
              have e5 := eqb_false h5
              have e6 := eqb_false h6
              have e7 := eqb_false h7
              have e8 := eqb_false h8
              have e9 := eqb_false h9
              have e10 := eqb_false h10
              have e11 := eqb_false h11
              have e12 := eqb_true h12
              clear h0 h1 h2 h3 h4 h5 h6 h7 h8 h9 h10 h11 h12
              go_enter Tryz.func198, Tryz.ntmps198
              go_wp2
              go_ret2
              exact ⟨by rw [HR.out]; rfl, rfl⟩
             ·skip
              by_cases h13 : bl s = [84, 83, 84, 79, 82, 69]
              ·as_aux_lemma =>
               have HR : Hid (lk tabKee (bl s) = some 93) := by show _ = _; unfold tabKee; rw [lk_miss h0, lk_miss h1, lk_miss h2, lk_miss h3, lk_miss h4, lk_miss h5, lk_miss h6, lk_miss h7, lk_miss h8, lk_miss h9, lk_miss h10, lk_miss h11, lk_miss h12, lk_hit h13]
               have e0 := eqb_false h0
               have e1 := eqb_false h1
               have e2 := eqb_false h2
               have e3 := eqb_false h3
               have e4 := eqb_false h4
               have e5 := eqb_false h5
               have e6 := eqb_false h6
               have e7 := eqb_false h7
               have e8 := eqb_false h8
               have e9 := eqb_false h9
               have e10 := eqb_false h10
               have e11 := eqb_false h11
               have e12 := eqb_false h12
               have e13 := eqb_true h13
               clear h0 h1 h2 h3 h4 h5 h6 h7 h8 h9 h10 h11 h12 h13
               go_enter Tryz.func198, Tryz.ntmps198
               go_wp2
               go_ret2
               exact ⟨by rw [HR.out]; rfl, rfl⟩
              ·skip
               by_cases h14 : bl s = [77, 67, 79, 80, 89]
               ·as_aux_lemma =>
                have HR : Hid (lk tabKee (bl s) = some 94) := by show _ = _; unfold tabKee; rw [lk_miss h0, lk_miss h1, lk_miss h2, lk_miss h3, lk_miss h4, lk_miss h5, lk_miss h6, lk_miss h7, lk_miss h8, lk_miss h9, lk_miss h10, lk_miss h11, lk_miss h12, lk_miss h13, lk_hit h14]
                have e0 := eqb_false h0
                have e1 := eqb_false h1
                have e2 := eqb_false h2
                have e3 := eqb_false h3
                have e4 := eqb_false h4
                have e5 := eqb_false h5
                have e6 := eqb_false h6
                have e7 := eqb_false h7
                have e8 := eqb_false h8
                have e9 := eqb_false h9
                have e10 := eqb_false h10
                have e11 := eqb_false h11
                have e12 := eqb_false h12
                have e13 := eqb_false h13
                have e14 := eqb_true h14
                clear h0 h1 h2 h3 h4 h5 h6 h7 h8 h9 h10 h11 h12 h13 h14
                go_enter Tryz.func198, Tryz.ntmps198
                go_wp2
                go_ret2
                exact ⟨by rw [HR.out]; rfl, rfl⟩
               ·skip
                have HR : Hid (lk tabKee (bl s) = none) := by show _ = _; unfold tabKee; rw [lk_miss h0, lk_miss h1, lk_miss h2, lk_miss h3, lk_miss h4, lk_miss h5, lk_miss h6, lk_miss h7, lk_miss h8, lk_miss h9, lk_miss h10, lk_miss h11, lk_miss h12, lk_miss h13, lk_miss h14]; rfl
                have e0 := eqb_false h0
                have e1 := eqb_false h1
                have e2 := eqb_false h2
                have e3 := eqb_false h3
                have e4 := eqb_false h4
                have e5 := eqb_false h5
                have e6 := eqb_false h6
                have e7 := eqb_false h7
                have e8 := eqb_false h8
                have e9 := eqb_false h9
                have e10 := eqb_false h10
                have e11 := eqb_false h11
                have e12 := eqb_false h12
                have e13 := eqb_false h13
                have e14 := eqb_false h14
                clear h0 h1 h2 h3 h4 h5 h6 h7 h8 h9 h10 h11 h12 h13 h14
                go_enter Tryz.func198, Tryz.ntmps198
                go_wp2
                go_ret2
                exact ⟨by rw [HR.out]; rfl, rfl⟩
end
section
open Go.RowKit
set_option maxRecDepth 100000
def dcs (k : Nat) : ByteArray := if k < 10 then ⟨#[UInt8.ofNat (48 + k)]⟩ else ⟨#[49, UInt8.ofNat (38 + k)]⟩
theorem itoa0 (w : World) : Calls Tryz.prog 228 #[.int .i64 0] w fun e w' => e = .returned (.string (dcs 0)) ∧ w' = w := by
 go_enter Tryz.func228, Tryz.ntmps228
 go_wp2
 go_ret
 exact ⟨by kernel_rfl, rfl⟩
theorem itoa1 (w : World) : Calls Tryz.prog 228 #[.int .i64 1] w fun e w' => e = .returned (.string (dcs 1)) ∧ w' = w := by
 go_enter Tryz.func228, Tryz.ntmps228
 go_wp2
 go_ret
 exact ⟨by kernel_rfl, rfl⟩
theorem itoa2 (w : World) : Calls Tryz.prog 228 #[.int .i64 2] w fun e w' => e = .returned (.string (dcs 2)) ∧ w' = w := by
 go_enter Tryz.func228, Tryz.ntmps228
 go_wp2
 go_ret
 exact ⟨by kernel_rfl, rfl⟩
theorem itoa3 (w : World) : Calls Tryz.prog 228 #[.int .i64 3] w fun e w' => e = .returned (.string (dcs 3)) ∧ w' = w := by
 go_enter Tryz.func228, Tryz.ntmps228
 go_wp2
 go_ret
 exact ⟨by kernel_rfl, rfl⟩
theorem itoa4 (w : World) : Calls Tryz.prog 228 #[.int .i64 4] w fun e w' => e = .returned (.string (dcs 4)) ∧ w' = w := by
 go_enter Tryz.func228, Tryz.ntmps228
 go_wp2
 go_ret
 exact ⟨by kernel_rfl, rfl⟩
theorem itoa5 (w : World) : Calls Tryz.prog 228 #[.int .i64 5] w fun e w' => e = .returned (.string (dcs 5)) ∧ w' = w := by
 go_enter Tryz.func228, Tryz.ntmps228
 go_wp2
 go_ret
 exact ⟨by kernel_rfl, rfl⟩
theorem itoa6 (w : World) : Calls Tryz.prog 228 #[.int .i64 6] w fun e w' => e = .returned (.string (dcs 6)) ∧ w' = w := by
 go_enter Tryz.func228, Tryz.ntmps228
 go_wp2
 go_ret
 exact ⟨by kernel_rfl, rfl⟩
theorem itoa7 (w : World) : Calls Tryz.prog 228 #[.int .i64 7] w fun e w' => e = .returned (.string (dcs 7)) ∧ w' = w := by
 go_enter Tryz.func228, Tryz.ntmps228
 go_wp2
 go_ret
 exact ⟨by kernel_rfl, rfl⟩
theorem itoa8 (w : World) : Calls Tryz.prog 228 #[.int .i64 8] w fun e w' => e = .returned (.string (dcs 8)) ∧ w' = w := by
 go_enter Tryz.func228, Tryz.ntmps228
 go_wp2
 go_ret
 exact ⟨by kernel_rfl, rfl⟩
theorem itoa9 (w : World) : Calls Tryz.prog 228 #[.int .i64 9] w fun e w' => e = .returned (.string (dcs 9)) ∧ w' = w := by
 go_enter Tryz.func228, Tryz.ntmps228
 go_wp2
 go_ret
 exact ⟨by kernel_rfl, rfl⟩
theorem itoa10 (w : World) : Calls Tryz.prog 228 #[.int .i64 10] w fun e w' => e = .returned (.string (dcs 10)) ∧ w' = w := by
 go_enter Tryz.func228, Tryz.ntmps228
 go_wp2
 go_ret
 exact ⟨by kernel_rfl, rfl⟩
theorem itoa11 (w : World) : Calls Tryz.prog 228 #[.int .i64 11] w fun e w' => e = .returned (.string (dcs 11)) ∧ w' = w := by
 go_enter Tryz.func228, Tryz.ntmps228
 go_wp2
 go_ret
 exact ⟨by kernel_rfl, rfl⟩
theorem itoa12 (w : World) : Calls Tryz.prog 228 #[.int .i64 12] w fun e w' => e = .returned (.string (dcs 12)) ∧ w' = w := by
 go_enter Tryz.func228, Tryz.ntmps228
 go_wp2
 go_ret
 exact ⟨by kernel_rfl, rfl⟩
theorem itoa13 (w : World) : Calls Tryz.prog 228 #[.int .i64 13] w fun e w' => e = .returned (.string (dcs 13)) ∧ w' = w := by
 go_enter Tryz.func228, Tryz.ntmps228
 go_wp2
 go_ret
 exact ⟨by kernel_rfl, rfl⟩
theorem itoa14 (w : World) : Calls Tryz.prog 228 #[.int .i64 14] w fun e w' => e = .returned (.string (dcs 14)) ∧ w' = w := by
 go_enter Tryz.func228, Tryz.ntmps228
 go_wp2
 go_ret
 exact ⟨by kernel_rfl, rfl⟩
theorem itoa15 (w : World) : Calls Tryz.prog 228 #[.int .i64 15] w fun e w' => e = .returned (.string (dcs 15)) ∧ w' = w := by
 go_enter Tryz.func228, Tryz.ntmps228
 go_wp2
 go_ret
 exact ⟨by kernel_rfl, rfl⟩
theorem itoa16 (w : World) : Calls Tryz.prog 228 #[.int .i64 16] w fun e w' => e = .returned (.string (dcs 16)) ∧ w' = w := by
 go_enter Tryz.func228, Tryz.ntmps228
 go_wp2
 go_ret
 exact ⟨by kernel_rfl, rfl⟩
theorem itoa_any (k : Nat) (hk : k ≤ 16) (w : World) : Calls Tryz.prog 228 #[.int .i64 (k : Int)] w fun e w' => e = .returned (.string (dcs k)) ∧ w' = w := by
 rcases (by omega : k = 0 ∨ k = 1 ∨ k = 2 ∨ k = 3 ∨ k = 4 ∨ k = 5 ∨ k = 6 ∨ k = 7 ∨ k = 8 ∨ k = 9 ∨ k = 10 ∨ k = 11 ∨ k = 12 ∨ k = 13 ∨ k = 14 ∨ k = 15 ∨ k = 16) with rfl | rfl | rfl | rfl | rfl | rfl | rfl | rfl | rfl | rfl | rfl | rfl | rfl | rfl | rfl | rfl | rfl
 ·exact itoa0 w
 ·exact itoa1 w
 ·exact itoa2 w
 ·exact itoa3 w
 ·exact itoa4 w
 ·exact itoa5 w
 ·exact itoa6 w
 ·exact itoa7 w
 ·exact itoa8 w
 ·exact itoa9 w
 ·exact itoa10 w
 ·exact itoa11 w
 ·exact itoa12 w
 ·exact itoa13 w
 ·exact itoa14 w
 ·exact itoa15 w
 ·exact itoa16 w
theorem dcs_size (k : Nat) : (dcs k).size ≤ 2 := by
 unfold dcs
 split
 ·show 1 ≤ 2; omega
 ·show 2 ≤ 2; omega
def dup (i : Nat) : ByteArray := ⟨#[68, 85, 80]⟩ ++ dcs (i + 1)
def swp (i : Nat) : ByteArray := ⟨#[83, 87, 65, 80]⟩ ++ dcs (i + 1)
def lgs (i : Nat) : ByteArray := ⟨#[76, 79, 71]⟩ ++ dcs i
def rowA (l : List UInt8) : Nat → Nat → Option Nat
 | 0, _ => none
 | f + 1, i => if l = bl (dup i) then some (128 + i) else if l = bl (swp i) then some (144 + i) else rowA l f (i + 1)
def rowB (l : List UInt8) : Nat → Nat → Option Nat
 | 0, _ => none
 | f + 1, i => if l = bl (lgs i) then some (160 + i) else rowB l f (i + 1)
def inRow (s : ByteArray) : Option Nat := (rowA (bl s) 16 0).orElse fun _ => rowB (bl s) 5 0
theorem eqs_true {s t : ByteArray} (h : bl s = bl t) : (s.toList == t.toList) = true := by rw [Go.ByteArray.toList_eq, Go.ByteArray.toList_eq]; exact beq_iff_eq.2 h
theorem eqs_false {s t : ByteArray} (h : ¬ bl s = bl t) : (s.toList == t.toList) = false := by rw [Go.ByteArray.toList_eq, Go.ByteArray.toList_eq]; exact beq_eq_false_iff_ne.2 h
set_option maxHeartbeats 4000000 in
theorem inRow_any (s : ByteArray) (hs : s.size ≤ 2000) (w : World) : Calls Tryz.prog 199 #[.string s] w fun e w' => e = .returned (pr (inRow s)) ∧ w' = w := by
 go_enter Tryz.func199, Tryz.ntmps199
 go_wp2
 go_loopw [7] (fun t7 wr => ∃ i : Nat, i ≤ 16 ∧ t7 = .int .i64 i ∧ Hid (rowA (bl s) (16 - i) i = rowA (bl s) 16 0) ∧ Hid (wr = w)) (fun t7 _ => 16 - (intOf t7).toNat)
 case atStart => exact ⟨0, by omega, rfl, rfl, rfl⟩
 case round =>
  obtain ⟨i, hi, rfl, HA, HW⟩ := hrel
  by_cases hlt : i < 16
  ·have hdi : decide ((i : Int) < 16) = true := by simp; omega
   have HIT : Hid (∀ w, Calls Tryz.prog 228 #[.int .i64 ((i : Int) + 1)] w fun e w' => e = .returned (.string (dcs (i + 1))) ∧ w' = w) := fun w => by have h := itoa_any (i + 1) (by omega) w; rw [Int.natCast_add] at h; exact h
   have hsz := dcs_size (i + 1)
   obtain ⟨f, hf⟩ : ∃ f, 16 - i = f + 1 := ⟨15 - i, by omega⟩
   have HF : Hid (f = 16 - (i + 1)) := by show _ = _; omega
   have hA := HA.out
   rw [hf] at hA
   clear hf
   go_wp2_with fail
   refine (HIT.out _).mono ?_
   rintro e w' ⟨rfl, rfl⟩
   by_cases h1 : bl s = bl (dup i)
   ·have HR : Hid (inRow s = some (128 + i)) := by show _ = _; unfold inRow; rw [← hA]; simp [rowA, h1]
    have e1 : (s.toList == ((⟨#[68, 85, 80]⟩ : ByteArray) ++ dcs (i + 1)).toList) = true := eqs_true h1
    clear h1 hA
    generalize dcs (i + 1) = dc at *
    go_wp2
    go_ret2
    exact ⟨by rw [HR.out]; simp [pr], HW.out⟩
   ·have e1 : (s.toList == ((⟨#[68, 85, 80]⟩ : ByteArray) ++ dcs (i + 1)).toList) = false := eqs_false h1
    by_cases h2 : bl s = bl (swp i)
    ·have HR : Hid (inRow s = some (144 + i)) := by show _ = _; unfold inRow; rw [← hA]; simp only [rowA, if_neg h1, if_pos h2]; rfl
     have e2 : (s.toList == ((⟨#[83, 87, 65, 80]⟩ : ByteArray) ++ dcs (i + 1)).toList) = true := eqs_true h2
     clear h1 h2 hA
     generalize dcs (i + 1) = dc at *
     go_wp2
     go_ret2
     exact ⟨by rw [HR.out]; simp [pr], HW.out⟩
    ·have e2 : (s.toList == ((⟨#[83, 87, 65, 80]⟩ : ByteArray) ++ dcs (i + 1)).toList) = false := eqs_false h2
     have HA2 : Hid (rowA (bl s) (16 - (i + 1)) (i + 1) = rowA (bl s) 16 0) := by
      show _ = _
      rw [← hA, ← HF.out]
      simp only [rowA, if_neg h1, if_neg h2]
     clear h1 h2 hA
     generalize dcs (i + 1) = dc at *
     go_wp2
     go_roundw
     case rel => exact ⟨i + 1, by omega, by go_num, HA2, HW⟩
     case measure => simp [intOf]; omega
  ·obtain rfl : i = 16 := by omega
   have HN : Hid (rowA (bl s) 16 0 = none) := by show _ = _; rw [← HA.out]; rfl
   clear HA
   rw [show ((16 : Nat) : Int) = 16 from rfl]
   go_wp2
   go_loopw [29] (fun t29 wq => ∃ i : Nat, i ≤ 5 ∧ t29 = .int .i64 i ∧ Hid (rowB (bl s) (5 - i) i = rowB (bl s) 5 0) ∧ Hid (wq = w)) (fun t29 _ => 5 - (intOf t29).toNat)
   case atStart => exact ⟨0, by omega, rfl, rfl, HW⟩
   case round =>
    clear HW
    obtain ⟨i, hi, rfl, HA, HW⟩ := hrel
    by_cases hlt : i < 5
    ·have hdi : decide ((i : Int) < 5) = true := by simp; omega
     have HIT : Hid (∀ w, Calls Tryz.prog 228 #[.int .i64 (i : Int)] w fun e w' => e = .returned (.string (dcs i)) ∧ w' = w) := fun w => itoa_any i (by omega) w
     have hsz := dcs_size i
     obtain ⟨f, hf⟩ : ∃ f, 5 - i = f + 1 := ⟨4 - i, by omega⟩
     have HF : Hid (f = 5 - (i + 1)) := by show _ = _; omega
     have hA := HA.out
     rw [hf] at hA
     clear hf
     go_wp2_with fail
     refine (HIT.out _).mono ?_
     rintro e w' ⟨rfl, rfl⟩
     by_cases h1 : bl s = bl (lgs i)
     ·have HR : Hid (inRow s = some (160 + i)) := by show _ = _; unfold inRow; rw [HN.out, ← hA]; simp [rowB, h1]
      have e1 : (s.toList == ((⟨#[76, 79, 71]⟩ : ByteArray) ++ dcs i).toList) = true := eqs_true h1
      clear h1 hA
      generalize dcs i = dc at *
      go_wp2
      go_ret2
      exact ⟨by rw [HR.out]; simp [pr], HW.out⟩
     ·have e1 : (s.toList == ((⟨#[76, 79, 71]⟩ : ByteArray) ++ dcs i).toList) = false := eqs_false h1
      have HA2 : Hid (rowB (bl s) (5 - (i + 1)) (i + 1) = rowB (bl s) 5 0) := by
       show _ = _
       rw [← hA, ← HF.out]
       simp only [rowB, if_neg h1]
      clear h1 hA
      generalize dcs i = dc at *
      go_wp2
      go_roundw
      case rel => exact ⟨i + 1, by omega, by go_num, HA2, HW⟩
      case measure => simp [intOf]; omega
    ·obtain rfl : i = 5 := by omega
     have HR : Hid (inRow s = none) := by show _ = _; unfold inRow; rw [HN.out, ← HA.out]; rfl
     go_wp2
     go_ret2
     exact ⟨by rw [HR.out]; rfl, HW.out⟩
end
section
open Go.RowKit
theorem cvt1 (c : Int) (w : World) : (convert 26 9 (.slice (some ⟨w.heap.size, 0, none⟩) 1 1)).run Tryz.prog (w.alloc (.cells #[.int .u8 c] 5)) = .ok (.string ⟨#[UInt8.ofNat c.toNat]⟩) (w.alloc (.cells #[.int .u8 c] 5)) := by
 have h := run_convert_bytes_arg (P := Tryz.prog) (w.alloc (.cells #[.int .u8 c] 5)) 26 5 (by kernel_rfl) (by kernel_rfl) w.heap.size 0 1 1 [c] rfl (fun i hi => by
  obtain rfl : i = 0 := by omega
  simp) 9 (by kernel_rfl)
 exact h
end
section
open Go.RowKit
def u8s (f : Nat → Nat) : Nat → Value := fun i => .int .u8 (f i : Int)
def byn (n m : Nat) : Nat := n / 2 ^ (8 * m) % 256
theorem byn_lb (n i k : Nat) (hk : k < 8) : lb n i / 2 ^ (8 * k) % 256 = byn n (8 * i + k) := by
 unfold lb byn
 have e : (256 : Nat) = 2 ^ 8 := rfl
 rw [pw64, e, show 8 * (8 * i + k) = 64 * i + 8 * k by omega]
 apply Nat.eq_of_testBit_eq
 intro j
 simp only [Nat.testBit_mod_two_pow, Nat.testBit_div_two_pow]
 by_cases hj : j < 8
 ·rw [decide_eq_true hj, Bool.true_and, Bool.true_and, decide_eq_true (by omega), Bool.true_and]
  congr 1; omega
 ·rw [decide_eq_false hj, Bool.false_and, Bool.false_and]
theorem make_bytes (n : Nat) (hn : n ≤ 281474976710656) (w : World) : (Instr.makeSlice 26 (.int .i64 (n : Int)) (.int .i64 (n : Int))).run Tryz.prog w = .ok (.slice (some ⟨w.heap.size, 0, none⟩) n n) (w.alloc (.cells (madeCells #[.int .u8 0] n) 5)) :=
 run_make_row' 26 5 (.int .u8 0) 1 (by kernel_rfl) (by kernel_rfl) rfl .i64 .i64 n (by omega) (by omega) w
theorem row8_made {w : World} {t : TypeId} {n b : Nat} {f : Nat → Nat} (hb : b = w.heap.size) (h : ∀ j, j < n → f j = 0) : (w.alloc (.cells (madeCells #[.int .u8 0] n) t)).rowIs b t n (u8s f) := by
 subst hb
 exact (World.rowIs_made w (.int .u8 0) n t).congr fun j hj => by simp only [u8s]; rw [h j hj]; rfl
def by32 (n : Nat) : ByteArray := strOfNums ((List.range 32).map fun j => ((byn n (31 - j) : Nat) : Int))
end
section
open Go.RowKit
def lst (s : ByteArray) : ByteArray := ⟨((bl s).dropWhile (· == 0)).toArray⟩
theorem byt0 {s : ByteArray} (h : 0 < s.size) : ∃ (c : UInt8) (r : List UInt8), bl s = c :: r ∧ c.toNat = byt s 0 := by
 match hm : bl s with
 | [] => have : (bl s).length = s.size := rfl; rw [hm] at this; simp at this; omega
 | c :: r => exact ⟨c, r, rfl, by rw [byt_bl, hm]; rfl⟩
def strSize : Value → Nat
 | .string t => t.size
 | _ => 0
end
section
open Go.RowKit
def u8v (b : UInt8) : Value := .int .u8 (b.toNat : Int)
def Bys (w : World) (base : Nat) (v : Value) (l : List UInt8) : Prop := w.ownsRow base 5 1 v l.length (l.map u8v)
theorem hid_of {p : Prop} (h : p) : Hid p := h
theorem lit_cells (w : World) (cs : Array Value) (t : TypeId) : ∀ j u, cs.toList[j]? = some u → (w.alloc (.cells cs t)).cell? ((⟨w.heap.size, 0, none⟩ : Addr).add j) = some u := fun j u h => by
 have e : (⟨w.heap.size, 0, none⟩ : Addr).add j = ⟨w.heap.size, j, none⟩ := by simp [Addr.add, eq_comm]
 rw [e, cell_of_row _ w.heap.size j cs t (0, 0) (heap_alloc_new w _)]
 simpa using h
theorem info_u8 : (Tryz.prog.info? 5).map (fun i => (i.zero, i.size, i.bytes)) = some (some (.int .u8 0), 1, 1) := by kernel_rfl
theorem own_shape {w : World} {base e size : Nat} {v : Value} {n : Nat} {xs : List Value} (h : w.ownsRow base e size v n xs) (hn : n ≠ 0) : ∃ g cap : Nat, v = .slice (some ⟨g, 0, none⟩) n cap ∧ base ≤ g ∧ g < w.heap.size ∧ n ≤ cap := by
 rcases h.2 with ⟨_, h0⟩ | ⟨g, cap, cur, hv, hb, hg, hnc, _⟩
 ·exact absurd h0 hn
 ·exact ⟨g, cap, hv, hb, lt_of_block hg, hnc⟩
def bys (n m : Nat) : List UInt8 := (List.range (32 - m)).map fun j => UInt8.ofNat (byn n (31 - j))
def pl (n m : Nat) : List UInt8 := (bys n m).dropWhile (· == 0)
theorem bys_step (n i : Nat) (hi : i < 32) : bys n i = bys n (i + 1) ++ [UInt8.ofNat (byn n i)] := by
 unfold bys
 rw [show 32 - i = (32 - (i + 1)) + 1 by omega, List.range_succ, List.map_append, List.map_cons, List.map_nil, show 31 - (32 - (i + 1)) = i by omega]
theorem byn_lt (n i : Nat) : byn n i < 256 := Nat.mod_lt _ (by omega)
theorem ofNat_byn (n i : Nat) : (UInt8.ofNat (byn n i)).toNat = byn n i := UInt8.toNat_ofNat_of_lt' (byn_lt n i)
theorem pl_more (n i : Nat) (hi : i < 32) (h : byn n i ≠ 0 ∨ pl n (i + 1) ≠ []) : pl n i = pl n (i + 1) ++ [UInt8.ofNat (byn n i)] := by
 unfold pl at *
 rw [bys_step n i hi, List.dropWhile_append]
 by_cases he : (bys n (i + 1)).dropWhile (· == 0) = []
 ·rw [he] at h ⊢
  have h0 : byn n i ≠ 0 := h.resolve_right (fun k => k rfl)
  have : (UInt8.ofNat (byn n i) == 0) = false := by
   rw [beq_eq_false_iff_ne]
   intro e
   have := congrArg UInt8.toNat e
   rw [ofNat_byn] at this
   exact h0 this
  rw [List.isEmpty_nil, if_pos rfl, List.dropWhile_cons, this]
  rfl
 ·rw [if_neg]
  rw [List.isEmpty_iff]
  exact he
theorem pl_same (n i : Nat) (hi : i < 32) (h0 : byn n i = 0) (he : pl n (i + 1) = []) : pl n i = [] := by
 unfold pl at *
 rw [bys_step n i hi, List.dropWhile_append, he, h0]
 rfl
theorem pl_len (n m : Nat) : (pl n m).length ≤ 32 := by
 unfold pl bys
 have h1 := (List.dropWhile_suffix (fun x : UInt8 => x == 0) (l := (List.range (32 - m)).map fun j => UInt8.ofNat (byn n (31 - j)))).length_le
 rw [List.length_map, List.length_range] at h1
 omega
def pcs (n m : Nat) : List UInt8 := UInt8.ofNat (95 + (pl n m).length) :: pl n m
def pcode (n : Nat) : List UInt8 := pcs n 0
theorem head_nat (n m : Nat) : (UInt8.ofNat (95 + (pl n m).length)).toNat = 95 + (pl n m).length := by
 have h := pl_len n m
 exact UInt8.toNat_ofNat_of_lt' (by show _ < 256; omega)
theorem Bys.mono {w : World} {b c : Nat} {v : Value} {l : List UInt8} (h : Bys w b v l) (hc : c ≤ b) : Bys w c v l :=
 ⟨h.1, h.2.imp id fun ⟨g, cap, cur, a1, a2, a3⟩ => ⟨g, cap, cur, a1, Nat.le_trans hc a2, a3⟩⟩
theorem Bys.len {w : World} {b n : Nat} {v : Value} {l : List UInt8} (h : Bys w b v l) (hl : l.length = n) : w.ownsRow b 5 1 v n (l.map u8v) := by subst hl; exact h
theorem Bys.alloc {w : World} {base : Nat} {v : Value} {l : List UInt8} (h : Bys w base v l) (o : Obj) : Bys (w.alloc o) base v l := World.ownsRow.alloc h o
theorem pcs_step {w w' : World} {base : Nat} {g n i cap : Nat} (hi : i < 32) (h : byn n i ≠ 0 ∨ pl n (i + 1) ≠ []) (ho : w.ownsRow base 5 1 (.slice (some ⟨g, 0, none⟩) ((pcs n (i + 1)).length + 1) cap) ((pcs n (i + 1)).length + 1) ((pcs n (i + 1)).map u8v ++ [.int .u8 (byn n i : Int)])) :
  Bys (w.setCell ⟨g, 0, none⟩ (.int .u8 ((95 + (pl n (i + 1)).length : Nat) + 1 : Int))) base (.slice (some ⟨g, 0, none⟩) ((pcs n (i + 1)).length + 1) cap) (pcs n i) := by
 have hs := (ho.stored 0 (.int .u8 ((95 + (pl n (i + 1)).length : Nat) + 1 : Int))).1
 have e1 : pcs n i = UInt8.ofNat (95 + (pl n i).length) :: (pl n (i + 1) ++ [UInt8.ofNat (byn n i)]) := by unfold pcs; rw [pl_more n i hi h]
 have hl : (pl n i).length = (pl n (i + 1)).length + 1 := by rw [pl_more n i hi h, List.length_append]; rfl
 have e2 : (pcs n i).length = (pcs n (i + 1)).length + 1 := by unfold pcs; rw [List.length_cons, List.length_cons, hl]
 unfold Bys
 rw [e2]
 have e3 : (pcs n i).map u8v = ((pcs n (i + 1)).map u8v ++ [Value.int .u8 (byn n i : Int)]).set 0 (.int .u8 ((95 + (pl n (i + 1)).length : Nat) + 1 : Int)) := by
  rw [e1]
  unfold pcs
  rw [List.map_cons, List.map_cons, List.cons_append, List.set_cons_zero, List.map_append]
  congr 1
  ·unfold u8v
   rw [head_nat, hl]
   congr 1
  ·unfold u8v
   rw [List.map_cons, List.map_nil, ofNat_byn]
 rw [e3]
 exact hs
set_option maxRecDepth 100000 in
set_option maxHeartbeats 4000000 in
theorem push_any (n : Nat) (w : World) : Calls Tryz.prog 145 #[wv n] w fun e w' => ∃ v, e = .returned v ∧ Bys w' w.heap.size v (pcode n) ∧ Below w.heap.size w w' := by
 obtain ⟨i0, hi0, hz0, hz1, hz2⟩ := info_parts info_u8
 have hr0 : (w.alloc (.cells #[.int .u64 (limb n 0), .int .u64 (limb n 1), .int .u64 (limb n 2), .int .u64 (limb n 3)] 24)).rowIs w.heap.size 24 4 (u64s (limb n)) := row_lit4 (limb n) rfl rfl rfl rfl rfl
 go_enter Tryz.func145, Tryz.ntmps145
 go_wp2
 go_loopw [3, 4] (fun t3 t4 wr => ∃ m : Nat, m ≤ 32 ∧ t4 = .int .i64 ((m : Int) - 1) ∧ wr.rowIs w.heap.size 24 4 (u64s (limb n)) ∧ Bys wr (w.heap.size + 1) t3 (pcs n m) ∧ Below w.heap.size w wr)
   (fun _ t4 _ => (intOf t4 + 1).toNat)
 case atStart =>
  refine ⟨32, by omega, rfl, hr0.alloc _, ?_, bal (bal (Below.refl _ _) _) _⟩
  have h := World.ownsRow_lit (base := w.heap.size + 1) (e := 5) (size := 1) (w.alloc (.cells #[.int .u64 (limb n 0), .int .u64 (limb n 1), .int .u64 (limb n 2), .int .u64 (limb n 3)] 24)) #[.int .u8 95] 1 (by simp) (by decide) rfl
  simp at h
  exact h
 case round =>
  obtain ⟨m, hm, ht4, hr, ho, hbel⟩ := hrel
  by_cases h0 : m = 0
  ·subst h0
   obtain ⟨g, cap, rfl, hg1, hg2, hg3⟩ := own_shape ho (by unfold pcs; simp)
   rw [show ((0 : Nat) : Int) - 1 = -1 from rfl] at ht4
   subst ht4
   go_wp2
   go_ret
   exact ⟨_, rfl, ho.mono (by omega), hbel⟩
  ·obtain ⟨i, rfl⟩ : ∃ i, m = i + 1 := ⟨m - 1, by omega⟩
   rw [show ((i + 1 : Nat) : Int) - 1 = (i : Int) by omega] at ht4
   subst ht4
   have hq4 : i / 8 < 4 := by omega
   have ca := hr.cell hq4
   simp only [u64s, limb_lb] at ca
   have hbyte := byn_lb n (i / 8) (i % 8) (by omega)
   rw [show 8 * (i / 8) + i % 8 = i by omega] at hbyte
   obtain ⟨q, hq⟩ : ∃ q, i / 8 = q := ⟨_, rfl⟩
   obtain ⟨r, hr8⟩ : ∃ r, i % 8 = r := ⟨_, rfl⟩
   rw [hq] at hbyte ca hq4
   rw [hr8] at hbyte
   have hqi : (i : Int) / 8 = (q : Int) := by omega
   have hri : (i : Int) % 8 = (r : Int) := by omega
   have hr7 : r < 8 := by omega
   clear hq hr8
   have hll := lb_lt n q
   generalize lb n q = v at *
   obtain ⟨c, HC⟩ : ∃ c, Hid (c = byn n i) := ⟨_, rfl⟩
   have hval : (v : Int) / 2 ^ (r * 8) % 256 = (c : Int) := by
    rw [HC.out, ← hbyte, Nat.mul_comm 8 r]
    push_cast
    rfl
   have hc256 : c < 256 := by rw [HC.out]; exact byn_lt n i
   obtain ⟨k, HK⟩ : ∃ k, Hid (k = (pl n (i + 1)).length) := ⟨_, rfl⟩
   have hk32 : k ≤ 32 := by rw [HK.out]; exact pl_len n _
   have HPL : Hid ((pcs n (i + 1)).length = k + 1) := by show _ = _; unfold pcs; rw [List.length_cons, HK.out]
   have ho2 := ho.len HPL.out
   obtain ⟨g, cap, rfl, hg1, hg2, hg3⟩ := own_shape ho2 (by omega)
   have HEAD : Hid ((pcs n (i + 1)).map u8v = .int .u8 ((95 + k : Nat) : Int) :: (pl n (i + 1)).map u8v) := by
    show _ = _
    unfold pcs
    rw [List.map_cons, HK.out]
    unfold u8v
    rw [head_nat]
   have hsz := hbel.size
   by_cases hmore : c ≠ 0 ∨ 0 < k
   ·have HM : Hid (byn n i ≠ 0 ∨ pl n (i + 1) ≠ []) := by
     show _ ∨ _
     rw [← HC.out]
     exact hmore.imp id fun h e => by rw [HK.out, e] at h; simp at h
    have HCELL : Hid (∀ (x : World) (g' cap' : Nat), x.ownsRow (w.heap.size + 1) 5 1 (.slice (some ⟨g', 0, none⟩) (k + 1 + 1) cap') (k + 1 + 1) ((pcs n (i + 1)).map u8v ++ [.int .u8 (c : Int)]) → x.cell? ⟨g', 0, none⟩ = some (.int .u8 (95 + (k : Int))) ∧ x.frozen? ⟨g', 0, none⟩ = false) := fun x g' cap' h => by
     refine ⟨?_, h.frozenAt 0⟩
     rw [h.cellAt 0 (by omega), HEAD.out]
     simp
    have HSTEP : Hid (∀ (x : World) (g' cap' : Nat), x.ownsRow (w.heap.size + 1) 5 1 (.slice (some ⟨g', 0, none⟩) (k + 1 + 1) cap') (k + 1 + 1) ((pcs n (i + 1)).map u8v ++ [.int .u8 (c : Int)]) → Bys (x.setCell ⟨g', 0, none⟩ (.int .u8 (95 + (k : Int) + 1))) (w.heap.size + 1) (.slice (some ⟨g', 0, none⟩) (k + 1 + 1) cap') (pcs n i)) := fun x g' cap' h => by
     have h2 := pcs_step (w := x) (w' := x) (g := g') (cap := cap') (base := w.heap.size + 1) (by omega) HM.out (by rw [HPL.out, ← HC.out]; exact h)
     rw [HPL.out, ← HK.out] at h2
     exact h2
    have hdk : decide (1 < (k : Int) + 1) = decide (0 < k) := by rw [Bool.eq_iff_iff]; simp; omega
    by_cases hc0 : c = 0
    ·have hk0 : 0 < k := by omega
     subst hc0
     go_wp2_with (at_builtin; refine wpList_append_own _ rfl _ _ 26 rfl (w.heap.size + 1) 5 i0 (.int .u8 0) 1 1 (by kernel_rfl) hi0 hz0 hz1 hz2 rfl (by decide) _ _ _ rfl (ho2.alloc _) ⟨wr.heap.size, 0, none⟩ 1 1 [.int .u8 0] rfl rfl (lit_cells wr #[.int .u8 0] 5) (by intro u hu; simp at hu; subst hu; rfl) (by unfold maxLen; omega) (by omega) (by simp; omega) ?_; intro v' w1 ho3 hgr _; obtain ⟨g', cap', rfl, hg1', hg2', hg3'⟩ := own_shape ho3 (by omega); obtain ⟨hc1, hc2⟩ := HCELL.out w1 g' cap' ho3; have HGR := hid_of hgr; have HO3 := hid_of ho3; clear hgr ho3 hi0 hz0 hz1 hz2 ho ho2)
     have hgr := HGR.out
     have ho3 := HO3.out
     have HB2 : Hid (Bys (w1.setCell ⟨g', 0, none⟩ (.int .u8 (95 + (k : Int) + 1))) (w.heap.size + 1) (.slice (some ⟨g', 0, none⟩) (k + 1 + 1) cap') (pcs n i)) := HSTEP.out w1 g' cap' ho3
     have hr2 : w1.rowIs w.heap.size 24 4 (u64s (limb n)) := (hr.alloc _).of_block (hgr.block w.heap.size (by simp; omega) (fun e => by have e2 : w.heap.size = g := Option.some.inj e; omega))
     have hbel2 : Below w.heap.size w w1 := (bal hbel _).grown hgr (by simp; omega) (fun k e => by have e2 : g = k := Option.some.inj e; omega)
     go_roundw
     case rel => exact ⟨i, by omega, by go_num, hr2.setOther (by simp; omega) _, HB2.out, bset hbel2 (by simp; omega) _⟩
     case measure => simp [intOf]
    ·have hc1 : ((c : Int) != 0) = true := by simp; omega
     go_wp2_with (at_builtin; refine wpList_append_own _ rfl _ _ 26 rfl (w.heap.size + 1) 5 i0 (.int .u8 0) 1 1 (by kernel_rfl) hi0 hz0 hz1 hz2 rfl (by decide) _ _ _ rfl (ho2.alloc _) ⟨wr.heap.size, 0, none⟩ 1 1 [.int .u8 (c : Int)] rfl rfl (lit_cells wr #[.int .u8 (c : Int)] 5) (by intro u hu; simp at hu; subst hu; rfl) (by unfold maxLen; omega) (by omega) (by simp; omega) ?_; intro v' w1 ho3 hgr _; obtain ⟨g', cap', rfl, hg1', hg2', hg3'⟩ := own_shape ho3 (by omega); obtain ⟨hc1, hc2⟩ := HCELL.out w1 g' cap' ho3; have HGR := hid_of hgr; have HO3 := hid_of ho3; clear hgr ho3 hi0 hz0 hz1 hz2 ho ho2)
     have hgr := HGR.out
     have ho3 := HO3.out
     have HB2 : Hid (Bys (w1.setCell ⟨g', 0, none⟩ (.int .u8 (95 + (k : Int) + 1))) (w.heap.size + 1) (.slice (some ⟨g', 0, none⟩) (k + 1 + 1) cap') (pcs n i)) := HSTEP.out w1 g' cap' ho3
     have hr2 : w1.rowIs w.heap.size 24 4 (u64s (limb n)) := (hr.alloc _).of_block (hgr.block w.heap.size (by simp; omega) (fun e => by have e2 : w.heap.size = g := Option.some.inj e; omega))
     have hbel2 : Below w.heap.size w w1 := (bal hbel _).grown hgr (by simp; omega) (fun k e => by have e2 : g = k := Option.some.inj e; omega)
     go_roundw
     case rel => exact ⟨i, by omega, by go_num, hr2.setOther (by simp; omega) _, HB2.out, bset hbel2 (by simp; omega) _⟩
     case measure => simp [intOf]
   ·have hc0 : c = 0 := by omega
    have hk0 : k = 0 := by omega
    subst hc0 hk0
    have HB2 : Hid (Bys wr (w.heap.size + 1) (.slice (some ⟨g, 0, none⟩) (0 + 1) cap) (pcs n i)) := by
     have e : pl n (i + 1) = [] := List.length_eq_zero_iff.1 HK.out.symm
     have e2 : pcs n i = pcs n (i + 1) := by
      unfold pcs
      rw [e, pl_same n i (by omega) HC.out.symm e]
     show Bys _ _ _ _
     rw [e2]
     exact ho
    go_wp2
    go_roundw
    case rel => exact ⟨i, by omega, by go_num, hr, HB2.out, hbel⟩
    case measure => simp [intOf]
end
end cin
end Go.Proofs.YtohoajjdoihekaaGreatDoor
