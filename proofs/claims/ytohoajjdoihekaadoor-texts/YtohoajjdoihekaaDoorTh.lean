/-
  Numbers in texts, the program's way: the walk.
-/
import Derived.Test.YtohoajjdoihekaaDoorTf
import Derived.Deep.DeepCutAuto
set_option linter.unusedVariables false
set_option linter.unusedSimpArgs false
/-
  Numbers in texts, the program's way.
-/
namespace Go.Proofs.YtohoajjdoihekaaDoor
open Go.RowKit
namespace cin
/-- the number that stands in the digits from a place on: the word, and whether it was too great; none: no number -/
def numF (s : ByteArray) (base : Nat) : Nat → Nat → Nat → Bool → Option (Nat × Bool)
  | 0, _, n, g => some (n, g)
  | f + 1, p, n, g => if p < s.size then (if dgt (byt s p) < base then numF s base f (p + 1) ((n * base + dgt (byt s p)) % M) (g || decide (M ≤ n * base + dgt (byt s p))) else none) else some (n, g)
def num (s : ByteArray) (base : Nat) : Option (Nat × Bool) := numF s base s.size 0 0 false
theorem numF_end (s : ByteArray) (base f p n : Nat) (g : Bool) (h : ¬ p < s.size) : numF s base f p n g = some (n, g) := by
  cases f with
  | zero => rfl
  | succ f => simp [numF, h]
theorem num_step {s : ByteArray} {base f p n : Nat} {g : Bool} {c : Option (Nat × Bool)} (hp : p < s.size) (h0 : dgt (byt s p) < base) (hf : 0 < f) (h : numF s base f p n g = c) : numF s base (f - 1) (p + 1) ((n * base + dgt (byt s p)) % M) (g || decide (M ≤ n * base + dgt (byt s p))) = c := by
  obtain ⟨k, rfl⟩ : ∃ k, f = k + 1 := ⟨f - 1, by omega⟩
  rw [← h]
  simp [numF, hp, h0]
theorem num_no {s : ByteArray} {base f p n : Nat} {g : Bool} {c : Option (Nat × Bool)} (hp : p < s.size) (h0 : ¬ dgt (byt s p) < base) (hf : 0 < f) (h : numF s base f p n g = c) : c = none := by
  obtain ⟨k, rfl⟩ : ∃ k, f = k + 1 := ⟨f - 1, by omega⟩
  rw [← h]
  simp [numF, hp, h0]
/-- the word and the error of what stands there -/
def rnum (t : ByteArray) (base : Nat) : Nat × Int := match num t base with
  | none => (0, 2)
  | some (n, g) => if t.size = 0 then (0, 2) else if g then (0, 4) else (n, 0)
def x0 : ByteArray := ⟨#[48, 120]⟩
def rbase (s : ByteArray) : Nat := if pf s x0 then 16 else 10
def rnumber (s : ByteArray) : Nat × Int := rnum (cutP s x0) (rbase s)
/-- a rune that is a digit has one byte -/
theorem rune_digit (s : ByteArray) (p : Nat) : dgt (Utf8.decode s p).1 = dgt (byt s p) ∧ (dgt (byt s p) < 16 → (Utf8.decode s p).2 = 1) := by
  by_cases h : byt s p < 128
  · have e : Utf8.decode s p = (byt s p, 1) := by rw [decode_dec, dec_one _ _ _ _ _ _ h]
    rw [e]
    exact ⟨rfl, fun _ => rfl⟩
  · have hd := dec_small s.size p (byt s p) (byt s (p + 1)) (byt s (p + 2)) (byt s (p + 3))
    rw [← decode_dec] at hd
    have h1 : ¬ (Utf8.decode s p).1 ≤ 127 := fun k => h (hd.1 k)
    have e1 : dgt (byt s p) = 16 := by unfold dgt; rw [if_neg (by omega), if_neg (by omega)]
    have e2 : dgt (Utf8.decode s p).1 = 16 := by unfold dgt; rw [if_neg (by omega), if_neg (by omega)]
    rw [e1, e2]
    exact ⟨rfl, fun k => by omega⟩
end cin
end Go.Proofs.YtohoajjdoihekaaDoor

namespace Go.Proofs.YtohoajjdoihekaaDoor
open Go.RowKit Go.Lib
namespace cin
/-- an iterator over t at place p in block k; the number in block b; the result's place in block z -/
structure IT (w : World) (t : ByteArray) (z b k p n : Nat) (x : World) : Prop where
  it : x.heap[k]? = some (.stringIter t p)
  rz : x.rowIs z 58 4 (u64s fun _ => 0)
  rn : x.rowIs b 58 4 (u64s (limb n))
  hz : w.heap.size ≤ z
  hzb : z < b
  hbk : b < k
  be : Below w.heap.size w x
theorem IT.call {w : World} {t : ByteArray} {z b k p n : Nat} {x y : World} (h : IT w t z b k p n x) (hb : Below x.heap.size x y) : IT w t z b k p n y :=
  ⟨by rw [hb.block k (Array.getElem?_eq_some_iff.1 h.it).1]; exact h.it, row_below h.rz hb, row_below h.rn hb, h.hz, h.hzb, h.hbk, bcall h.be hb⟩
theorem IT.next {w : World} {t : ByteArray} {z b k p n : Nat} {x : World} (h : IT w t z b k p n x) (q : Nat) : IT w t z b k q n (x.iterAt k t q) := by
  have h1 := h.hz
  have h2 := h.hzb
  have h3 := h.hbk
  exact ⟨iterAt_heap x k t p q h.it, h.rz.of_block (iterAt_other x k z t q (by omega)), h.rn.of_block (iterAt_other x k b t q (by omega)), h1, h2, h3, below_iterAt h.be (by omega) t q⟩
theorem setCell_blk (x : World) (a : Addr) (v : Value) (k : Nat) (h : k ≠ a.block) : (x.setCell a v).heap[k]? = x.heap[k]? := Go.Deep.blk_setCell_other x a v k h
theorem IT.put {w : World} {t : ByteArray} {z b k p n : Nat} {x : World} (h : IT w t z b k p n x) (m : Nat) : IT w t z b k p m ((((x.setCell ⟨b, 0, none⟩ (.int .u64 (limb m 0))).setCell ⟨b, 1, none⟩ (.int .u64 (limb m 1))).setCell ⟨b, 2, none⟩ (.int .u64 (limb m 2))).setCell ⟨b, 3, none⟩ (.int .u64 (limb m 3))) := by
  have h1 := h.hz
  have h2 := h.hzb
  have h3 := h.hbk
  refine ⟨?_, (((h.rz.setOther (by simp; omega) _).setOther (by simp; omega) _).setOther (by simp; omega) _).setOther (by simp; omega) _, row_put4 h.rn (limb m) rfl rfl rfl rfl, h1, h2, h3, below_put4 h.be (by omega) _ _ _ _⟩
  rw [setCell_blk _ _ _ _ (by simp; omega), setCell_blk _ _ _ _ (by simp; omega), setCell_blk _ _ _ _ (by simp; omega), setCell_blk _ _ _ _ (by simp; omega)]
  exact h.it
theorem wv_zero4 : Value.agg #[.int .u64 0, .int .u64 0, .int .u64 0, .int .u64 0] = wv 0 := by unfold wv; simp only [limb_zero]
theorem rnum_none {t : ByteArray} {b : Nat} (h : num t b = none) : rnum t b = (0, 2) := by unfold rnum; rw [h]
theorem rnum_some {t : ByteArray} {b n : Nat} {g : Bool} (h : num t b = some (n, g)) : rnum t b = if t.size = 0 then (0, 2) else if g then (0, 4) else (n, 0) := by unfold rnum; rw [h]
set_option maxRecDepth 100000 in
set_option maxHeartbeats 4000000 in
theorem readNumber_any (s : ByteArray) (hs : s.size ≤ 2000) (w : World) : Calls Tryd.prog 29 #[.string s] w fun e w' => ∃ r : Nat, ∃ k : Int, Hid ((r, k) = rnumber s) ∧ e = .returned (.tuple #[wv r, .int .i64 k]) ∧ Below w.heap.size w w' := by
  obtain ⟨t, Ht⟩ : ∃ t, Hid (t = cutP s x0) := ⟨_, rfl⟩
  obtain ⟨b, Hb⟩ : ∃ b, Hid (b = rbase s) := ⟨_, rfl⟩
  obtain ⟨q, Hq⟩ : ∃ q, Hid (q = pf s x0) := ⟨_, rfl⟩
  have hts : t.size ≤ 2000 := by
    rw [Ht.out]; unfold cutP; split
    · rw [ByteArray.size_extract]; omega
    · exact hs
  have HB : Hid (b = if q then 16 else 10) := by show _ = _; rw [Hb.out, Hq.out]; rfl
  have HT0 : Hid (q = false → t = s) := fun h => by rw [Ht.out]; unfold cutP; rw [← Hq.out, h]; rfl
  have HCP : Hid (∀ w, Calls Tryd.prog 27 #[.string s, .string ⟨#[48, 120]⟩] w fun e w' => e = .returned (.tuple #[.string t, .bool q]) ∧ w' = w) := fun w => by
    have h := cutPrefix_any s x0 hs (by decide) w
    rw [← Ht.out, ← Hq.out] at h
    exact h
  have hrz := row_lit4 (w := w) (n := w.heap.size) (t := 58) (fun _ => 0) rfl rfl rfl rfl rfl
  have hbel := bal (Below.refl _ w) (.cells #[.int .u64 0, .int .u64 0, .int .u64 0, .int .u64 0] 58)
  go_enter Tryd.func29, Tryd.ntmps29
  go_wp2_with fail
  refine (HCP.out _).mono ?_
  rintro e w' ⟨rfl, rfl⟩
  go_upto_if 20 with fail
  go_cut [4, 5] (fun t4 t5 wx => t4 = .string t ∧ t5 = .int .u64 (b : Int) ∧ wx.rowIs w.heap.size 58 4 (u64s fun _ => 0) ∧ Below w.heap.size w wx ∧ wx.heap.size = w.heap.size + 1)
  case first =>
    cases q
    · have E1 : Hid (t = s) := HT0.out rfl
      have E2 : Hid (b = 10) := HB.out
      clear HB HT0
      go_wp2_with fail
      go_meet
      case rel => exact ⟨by rw [E1.out], by rw [E2.out]; rfl, hrz, hbel, by simp⟩
    · have E2 : Hid (b = 16) := HB.out
      clear HB HT0
      go_wp2_with fail
      go_meet
      case rel => exact ⟨rfl, by rw [E2.out]; rfl, hrz, hbel, by simp⟩
  case rest =>
    clear hrz hbel
    obtain ⟨rfl, rfl, hrz, hbel, hsz⟩ := hcut
    have HBL : Hid (b ≤ 16 ∧ 10 ≤ b) := by show _ ∧ _; rw [HB.out]; split <;> omega
    clear HB HT0 HCP
    have hit : IT w t w.heap.size (w.heap.size + 1) (w.heap.size + 1 + 1) 0 0 ((wc.alloc (.cells #[.int .u64 0, .int .u64 0, .int .u64 0, .int .u64 0] 58)).iter t 0) := by
      refine ⟨?_, (hrz.alloc _).alloc _, (row_lit4 (limb 0) hsz.symm (limb_zero 0).symm (limb_zero 1).symm (limb_zero 2).symm (limb_zero 3).symm).alloc _, Nat.le_refl _, by omega, by omega, bal (bal hbel _) _⟩
      have h := World.iter_heap (wc.alloc (.cells #[.int .u64 0, .int .u64 0, .int .u64 0, .int .u64 0] 58)) t 0
      rw [← hsz]
      simpa using h
    go_wp2
    go_loopw [9] (fun t9 wr => ∃ (p f n : Nat) (g : Bool), t9 = .bool g ∧ IT w t w.heap.size (w.heap.size + 1) (w.heap.size + 1 + 1) p n wr ∧ p ≤ t.size ∧ t.size ≤ p + f ∧ Hid (n < M) ∧ Hid (numF t b f p n g = num t b)) (fun _ wr => t.size - wr.iterPos (w.heap.size + 1 + 1))
    case atStart => exact ⟨0, t.size, 0, false, rfl, hit, by omega, by omega, by show _ < _; unfold M; omega, rfl⟩
    case round =>
      clear hit hrz hbel
      obtain ⟨p, f, n, g, rfl, hs2, hps, hf, HM, HC⟩ := hrel
      have hpos : wr.iterPos (w.heap.size + 1 + 1) = p := by simp [World.iterPos, hs2.it]
      have HPOS : Hid (wr.iterPos (w.heap.size + 1 + 1) = p) := hpos
      clear hpos
      by_cases hp : p < t.size
      · have hnx : ∀ ty, (Instr.next (.pointer (some ⟨w.heap.size + 1 + 1, 0, none⟩)) true ty).run Tryd.prog wr = _ := fun ty => run_next_any_at wr (w.heap.size + 1 + 1) t p ty hs2.it hp
        have hle := decode_le t p
        obtain ⟨hd1, hd2⟩ := rune_digit t p
        by_cases hdb : dgt (byt t p) < b
        · have hwd : (Utf8.decode t p).2 = 1 := hd2 (by have := HBL.out; omega)
          rw [hwd] at hnx
          have HS : Hid (numF t b (f - 1) (p + 1) ((n * b + dgt (byt t p)) % M) (g || decide (M ≤ n * b + dgt (byt t p))) = num t b) := num_step hp hdb (by omega) HC.out
          have HDG : Hid (∀ w, Calls Tryd.prog 43 #[.int .i32 ((Utf8.decode t p).1 : Int)] w fun e w' => e = .returned (.int .u64 (dgt (byt t p) : Int)) ∧ w' = w) := fun w => by rw [← hd1]; exact digit_any _ hle w
          have HD16 : Hid (dgt (byt t p) ≤ 16) := dgt_le _
          clear hd1 hd2 hwd
          generalize (Utf8.decode t p).1 = r at *
          generalize dgt (byt t p) = d at *
          have hs3 := hs2.next (p + 1)
          have hdd : decide ((b : Int) ≤ (d : Int)) = false := by simp; omega
          go_wp2_with fail
          refine (HDG.out _).mono ?_
          rintro e w' ⟨rfl, rfl⟩
          obtain ⟨c0, c1, c2, c3⟩ := row_cells4 hs3.rn
          have hb100 : b < 100 := by have := HBL.out; omega
          have hd100 : d < 100 := by have := HD16.out; omega
          have HT : Hid (b < 100 ∧ d < 100) := ⟨hb100, hd100⟩
          clear hb100 hd100
          go_wp2_with fail
          refine (timesPlus_any n b d HM HT.out.1 HT.out.2 _).mono ?_
          rintro e w3 ⟨m, HMM, rfl, hb2⟩
          have hs4 := hs3.call hb2
          clear c0 c1 c2 c3 hb2 hs2
          obtain ⟨c0, c1, c2, c3⟩ := row_cells4 hs4.rn
          have fz := hs4.rn.frozen
          obtain ⟨ov, HO⟩ : ∃ o, Hid (o = decide (M ≤ n * b + d)) := ⟨_, rfl⟩
          rw [← HO.out]
          have HS2 : Hid (numF t b (f - 1) (p + 1) m (g || ov) = num t b) := by show _ = _; rw [HMM.out, HO.out]; exact HS.out
          have HM2 : Hid (m < M) := by show _ < _; rw [HMM.out]; exact Nat.mod_lt _ Mpos
          have hs5 := hs4.put m
          have HPO2 : Hid (((((w3.setCell ⟨w.heap.size + 1, 0, none⟩ (.int .u64 (limb m 0))).setCell ⟨w.heap.size + 1, 1, none⟩ (.int .u64 (limb m 1))).setCell ⟨w.heap.size + 1, 2, none⟩ (.int .u64 (limb m 2))).setCell ⟨w.heap.size + 1, 3, none⟩ (.int .u64 (limb m 3))).iterPos (w.heap.size + 1 + 1) = p + 1) := by show _ = _; simp only [World.iterPos, hs5.it]
          clear hnx
          cases g <;> cases ov
          all_goals go_wp2
          all_goals go_roundw
          all_goals first
            | exact ⟨p + 1, f - 1, m, _, rfl, hs5, by omega, by omega, HM2, HS2⟩
            | (rw [HPO2.out, HPOS.out]; omega)
        · have HR : Hid (num t b = none) := num_no hp hdb (by omega) HC.out
          have HDG : Hid (∀ w, Calls Tryd.prog 43 #[.int .i32 ((Utf8.decode t p).1 : Int)] w fun e w' => e = .returned (.int .u64 (dgt (byt t p) : Int)) ∧ w' = w) := fun w => by rw [← hd1]; exact digit_any _ hle w
          clear hd1 hd2
          have hs3 := hs2.next (p + (Utf8.decode t p).2)
          generalize (Utf8.decode t p).1 = r at *
          generalize (Utf8.decode t p).2 = v at *
          generalize dgt (byt t p) = d at *
          have hdd : decide ((b : Int) ≤ (d : Int)) = true := by simp; omega
          go_wp2_with fail
          refine (HDG.out _).mono ?_
          rintro e w' ⟨rfl, rfl⟩
          obtain ⟨c0, c1, c2, c3⟩ := row_cells4 hs3.rz
          have fz := hs3.rz.frozen
          clear hnx
          go_wp2
          obtain ⟨q0, q1, q2, q3⟩ := row_cells4 (row_put4 hs3.rz (limb 0) (limb_zero 0).symm (limb_zero 1).symm (limb_zero 2).symm (limb_zero 3).symm)
          refine bodyPost_ret (v := .tuple #[wv 0, .int .i64 2]) (by simp [results, Tryd.results29, go_sem, q0, q1, q2, q3]) rfl ⟨0, 2, ?_, rfl, below_put4 hs3.be (by omega) _ _ _ _⟩
          show _ = _
          unfold rnumber
          rw [← Ht.out, ← Hb.out, rnum_none HR.out]
      · have HR : Hid (rnumber s = if t.size = 0 then (0, 2) else if g then (0, 4) else (n, 0)) := by
          show _ = _
          unfold rnumber
          rw [← Ht.out, ← Hb.out]
          exact rnum_some (by rw [← HC.out, numF_end t b f p n g hp])
        have hnx : ∀ ty, (Instr.next (.pointer (some ⟨w.heap.size + 1 + 1, 0, none⟩)) true ty).run Tryd.prog wr = _ := fun ty => run_next_end_at wr (w.heap.size + 1 + 1) t p ty hs2.it hp
        have hl : t.toList.isEmpty = decide (t.size = 0) := by
          rw [Go.ByteArray.toList_eq, Bool.eq_iff_iff, decide_eq_true_eq, List.isEmpty_iff, ← List.length_eq_zero_iff]
          exact Iff.rfl
        obtain ⟨c0, c1, c2, c3⟩ := row_cells4 hs2.rz
        have fz := hs2.rz.frozen
        by_cases hz : t.size = 0
        · rw [if_pos hz] at HR
          have he : t.toList.isEmpty = true := by rw [hl, decide_eq_true hz]
          clear hl hz
          go_wp2
          obtain ⟨q0, q1, q2, q3⟩ := row_cells4 (row_put4 hs2.rz (limb 0) (limb_zero 0).symm (limb_zero 1).symm (limb_zero 2).symm (limb_zero 3).symm)
          exact bodyPost_ret (v := .tuple #[wv 0, .int .i64 2]) (by simp [results, Tryd.results29, go_sem, q0, q1, q2, q3]) rfl ⟨0, 2, HR.out.symm, rfl, below_put4 hs2.be (by omega) _ _ _ _⟩
        · rw [if_neg hz] at HR
          have he : t.toList.isEmpty = false := by rw [hl, decide_eq_false hz]
          clear hl hz
          cases g
          · have HR2 : Hid (rnumber s = (n, 0)) := HR.out
            clear HR
            obtain ⟨d0, d1, d2, d3⟩ := row_cells4 hs2.rn
            go_wp2
            obtain ⟨q0, q1, q2, q3⟩ := row_cells4 (row_put4 hs2.rz (limb n) rfl rfl rfl rfl)
            exact bodyPost_ret (v := .tuple #[wv n, .int .i64 0]) (by simp [results, Tryd.results29, go_sem, q0, q1, q2, q3]) rfl ⟨n, 0, HR2.out.symm, rfl, below_put4 hs2.be (by omega) _ _ _ _⟩
          · have HR2 : Hid (rnumber s = (0, 4)) := HR.out
            clear HR
            go_wp2
            obtain ⟨q0, q1, q2, q3⟩ := row_cells4 (row_put4 hs2.rz (limb 0) (limb_zero 0).symm (limb_zero 1).symm (limb_zero 2).symm (limb_zero 3).symm)
            exact bodyPost_ret (v := .tuple #[wv 0, .int .i64 4]) (by simp [results, Tryd.results29, go_sem, q0, q1, q2, q3]) rfl ⟨0, 4, HR2.out.symm, rfl, below_put4 hs2.be (by omega) _ _ _ _⟩
end cin
end Go.Proofs.YtohoajjdoihekaaDoor
