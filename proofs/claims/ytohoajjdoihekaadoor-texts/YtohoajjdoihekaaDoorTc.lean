/-
  Prefixes of strings; runes counted.
-/
import Derived.Test.YtohoajjdoihekaaDoorTb
import Derived.Lib.OthersKept
set_option linter.unusedVariables false
set_option linter.unusedSimpArgs false
namespace Go.Proofs.YtohoajjdoihekaaDoor
open Go.RowKit
namespace cin
/-- a string's bytes -/
def bl (s : ByteArray) : List UInt8 := s.data.toList
theorem bl_len (s : ByteArray) : (bl s).length = s.size := rfl
theorem bl_sub (s : ByteArray) (a b : Nat) : bl (s.extract a b) = ((bl s).drop a).take (b - a) := by
  unfold bl
  rw [ByteArray.data_extract, Array.toList_extract]
theorem byt_bl (s : ByteArray) (i : Nat) : byt s i = ((bl s).getD i 0).toNat := by
  unfold byt bl
  by_cases h : i < s.size
  · have e : s.get! i = s[i]'h := by
      simp [ByteArray.get!, getElem!_pos, h]
      rfl
    have e2 : (s.data.toList).getD i 0 = s[i]'h := by
      rw [List.getD_eq_getElem?_getD, List.getElem?_eq_getElem (by simpa using h)]
      rfl
    rw [e, e2]
  · have e : s.get! i = 0 := by
      have h2 : ¬ i < s.data.size := h
      exact getElem!_neg s.data i h2
    have e2 : (s.data.toList).getD i 0 = 0 := by
      rw [List.getD_eq_getElem?_getD, List.getElem?_eq_none (by simpa using Nat.le_of_not_lt h)]
      rfl
    rw [e, e2]
def pf (t pre : ByteArray) : Bool := decide (pre.size ≤ t.size) && ((t.extract 0 pre.size).toList == pre.toList)
theorem hasPrefix_any (t pre : ByteArray) (ht : t.size ≤ 2000) (hp : pre.size ≤ 2000) (w : World) : Calls Tryd.prog 14 #[.string t, .string pre] w fun e w' => e = .returned (.bool (pf t pre)) ∧ w' = w := by
  by_cases h : pre.size ≤ t.size
  · have HP : Hid (pf t pre = ((t.extract 0 pre.size).toList == pre.toList)) := by show _ = _; unfold pf; rw [decide_eq_true h, Bool.true_and]
    go_enter Tryd.func14, Tryd.ntmps14
    go_wp2
    go_ret
    exact ⟨by rw [HP.out]; rfl, rfl⟩
  · have HP : Hid (pf t pre = false) := by show _ = _; unfold pf; rw [decide_eq_false h, Bool.false_and]
    go_enter Tryd.func14, Tryd.ntmps14
    go_wp2
    go_ret
    exact ⟨by rw [HP.out]; rfl, rfl⟩
theorem pf_list (t pre : ByteArray) : pf t pre = (bl pre).isPrefixOf (bl t) := by
  unfold pf
  rw [Go.ByteArray.toList_eq, Go.ByteArray.toList_eq]
  show (decide ((bl pre).length ≤ (bl t).length) && (bl (t.extract 0 pre.size) == bl pre)) = _
  rw [bl_sub, List.drop_zero, Nat.sub_zero, ← bl_len pre, Bool.eq_iff_iff]
  simp only [Bool.and_eq_true, decide_eq_true_eq, beq_iff_eq, List.isPrefixOf_iff_prefix]
  constructor
  · rintro ⟨h1, h2⟩
    rw [← h2]
    exact List.take_prefix _ _
  · intro h
    exact ⟨h.length_le, (List.prefix_iff_eq_take.1 h).symm⟩
/-- the mark that stands for a rune that is none, where it is written -/
theorem pf_mark (s : ByteArray) (p : Nat) : pf (s.extract p s.size) ⟨#[239, 191, 189]⟩ = decide (p + 3 ≤ s.size ∧ byt s p = 239 ∧ byt s (p + 1) = 191 ∧ byt s (p + 2) = 189) := by
  have hb : ∀ k, byt s (p + k) = (((bl s).drop p).getD k 0).toNat := fun k => by
    rw [byt_bl, List.getD_eq_getElem?_getD, List.getD_eq_getElem?_getD, List.getElem?_drop]
  have h0 := hb 0
  have h1 := hb 1
  have h2 := hb 2
  have hl : (bl s).length = s.size := rfl
  have hd : ((bl s).drop p).length = s.size - p := by rw [List.length_drop, hl]
  have ht : ((bl s).drop p).take (s.size - p) = (bl s).drop p := List.take_of_length_le (by omega)
  rw [pf_list, bl_sub, ht, Bool.eq_iff_iff]
  rw [Nat.add_zero] at h0
  rw [h0, h1, h2]
  show (([239, 191, 189] : List UInt8).isPrefixOf ((bl s).drop p) = true) ↔ _
  match hm : (bl s).drop p with
  | [] => rw [hm] at hd; simp at hd ⊢ <;> omega
  | [a] => rw [hm] at hd; simp at hd ⊢ <;> omega
  | [a, b] => rw [hm] at hd; simp at hd ⊢ <;> omega
  | a :: b :: c :: r =>
    rw [hm] at hd
    simp only [List.length_cons] at hd
    simp only [List.isPrefixOf, Bool.and_eq_true, beq_iff_eq, decide_eq_true_eq, List.getD_cons_zero, List.getD_cons_succ]
    constructor
    · rintro ⟨h1, h2, h3, _⟩
      subst h1 h2 h3
      exact ⟨by omega, rfl, rfl, rfl⟩
    · rintro ⟨_, h1, h2, h3⟩
      refine ⟨?_, ?_, ?_, trivial⟩
      · exact (UInt8.toNat_inj.1 h1).symm
      · exact (UInt8.toNat_inj.1 h2).symm
      · exact (UInt8.toNat_inj.1 h3).symm
theorem dec_mark (z i b0 b1 b2 b3 : Nat) (h0 : b0 < 256) (h1 : b1 < 256) (h2 : b2 < 256) (h3 : b3 < 256) : dec z i b0 b1 b2 b3 = (65533, 1) ↔ ((dec z i b0 b1 b2 b3).1 = 65533 ∧ ¬ (i + 3 ≤ z ∧ b0 = 239 ∧ b1 = 191 ∧ b2 = 189)) := by
  unfold dec
  repeat' split
  all_goals first
    | exact ⟨fun _ => ⟨rfl, by omega⟩, fun _ => rfl⟩
    | exact ⟨fun h => by injection h with h1 h2; omega, fun h => by have h1 := h.1; have h2 := h.2; dsimp only at h1; exfalso; omega⟩
theorem nx_mark (s : ByteArray) (p : Nat) : nx s p = 0 ↔ ((Utf8.decode s p).1 = 65533 ∧ pf (s.extract p s.size) ⟨#[239, 191, 189]⟩ = false) := by
  have hd := dec_mark s.size p (byt s p) (byt s (p + 1)) (byt s (p + 2)) (byt s (p + 3)) (byt_lt _ _) (byt_lt _ _) (byt_lt _ _) (byt_lt _ _)
  rw [← decode_dec] at hd
  have hn : nx s p = 0 ↔ Utf8.decode s p = (65533, 1) := by
    unfold nx
    constructor
    · intro h
      by_cases e : Utf8.decode s p = (65533, 1)
      · exact e
      · rw [if_neg e] at h
        exfalso
        have hp : (dec s.size p (byt s p) (byt s (p + 1)) (byt s (p + 2)) (byt s (p + 3))).2 ≠ 0 := by
          unfold dec
          repeat' split
          all_goals simp
        rw [← decode_dec] at hp
        exact hp h
    · intro h; rw [if_pos h]
  rw [hn, hd, pf_mark]
  simp only [decide_eq_false_iff_not]
theorem nx_width (s : ByteArray) (p : Nat) (h : nx s p ≠ 0) : (Utf8.decode s p).2 = nx s p := by
  unfold nx at *
  split at h
  · exact absurd rfl h
  · rename_i e; rw [if_neg e]
theorem wid_le (z i b0 b1 b2 b3 : Nat) (hi : i < z) : i + wid z i b0 b1 b2 b3 ≤ z := by
  unfold wid
  split
  · omega
  · unfold dec
    repeat' split
    all_goals dsimp only
    all_goals omega
theorem nx_le (s : ByteArray) (p : Nat) (hp : p < s.size) (h : nx s p ≠ 0) : p + nx s p ≤ s.size := by
  rw [nx_wid]
  exact wid_le _ _ _ _ _ _ hp
/-- runes counted from a place on, up to a byte that belongs to none -/
def cntF (s : ByteArray) : Nat → Nat → Nat → Nat × Bool
  | 0, _, k => (k, true)
  | f + 1, p, k => if p < s.size then (if nx s p = 0 then (k, false) else cntF s f (p + nx s p) (k + 1)) else (k, true)
def cnt (s : ByteArray) : Nat × Bool := cntF s s.size 0 0
theorem cntF_end (s : ByteArray) (f p k : Nat) (h : ¬ p < s.size) : cntF s f p k = (k, true) := by
  cases f with
  | zero => rfl
  | succ f => simp [cntF, h]
theorem cnt_step {s : ByteArray} {f p k : Nat} {c : Nat × Bool} (hp : p < s.size) (h0 : nx s p ≠ 0) (hf : 0 < f) (h : cntF s f p k = c) : cntF s (f - 1) (p + nx s p) (k + 1) = c := by
  obtain ⟨g, rfl⟩ : ∃ g, f = g + 1 := ⟨f - 1, by omega⟩
  rw [← h]
  simp [cntF, hp, h0]
set_option maxRecDepth 100000 in
set_option maxHeartbeats 1000000 in
theorem countRunes_any (s : ByteArray) (hs : s.size ≤ 2000) (w : World) : Calls Tryd.prog 6 #[.string s] w fun e w' => e = .returned (.tuple #[.int .i64 ((cnt s).1 : Int), .bool (cnt s).2]) ∧ Below w.heap.size w w' := by
  go_enter Tryd.func6, Tryd.ntmps6
  go_wp2
  go_loopw [4] (fun t4 wr => ∃ p f k : Nat, wr = w.iter s p ∧ t4 = .int .i64 k ∧ k ≤ p ∧ p ≤ s.size ∧ s.size ≤ p + f ∧ Hid (cntF s f p k = cnt s)) (fun _ wr => s.size - wr.iterPos w.heap.size)
  case atStart => exact ⟨0, s.size, 0, rfl, rfl, by omega, by omega, by omega, rfl⟩
  case round =>
    obtain ⟨p, f, k, rfl, rfl, hk, hps, hf, HC⟩ := hrel
    by_cases hp : p < s.size
    · have hnx : ∀ ty, (Instr.next (.pointer (some ⟨w.heap.size, 0, none⟩)) true ty).run Tryd.prog (w.iter s p) = _ := fun ty => run_next_any w s p ty hp
      have hsl : (s.extract p s.size).size ≤ 2000 := by rw [ByteArray.size_extract]; omega
      have hr : 0 ≤ (Utf8.decode s p).1 := Nat.zero_le _
      have hle := decode_le s p
      have hm := nx_mark s p
      by_cases h1 : (Utf8.decode s p).1 = 65533
      · cases h2 : pf (s.extract p s.size) ⟨#[239, 191, 189]⟩
        · have h0 : nx s p = 0 := hm.2 ⟨h1, h2⟩
          have HR : Hid (cnt s = (k, false)) := by
            show _ = _
            rw [← HC.out]
            obtain ⟨g, rfl⟩ : ∃ g, f = g + 1 := ⟨f - 1, by omega⟩
            simp [cntF, hp, h0]
          have hpre : ∀ w, Calls Tryd.prog 14 #[.string (s.extract p s.size), .string ⟨#[239, 191, 189]⟩] w fun e w' => e = .returned (.bool false) ∧ w' = w := fun w => by have h := hasPrefix_any (s.extract p s.size) ⟨#[239, 191, 189]⟩ hsl (by decide) w; rw [h2] at h; exact h
          have HP : Hid (∀ w, Calls Tryd.prog 14 #[.string (s.extract p s.size), .string ⟨#[239, 191, 189]⟩] w fun e w' => e = .returned (.bool false) ∧ w' = w) := hpre
          clear hpre hm h0 h2 hle hr
          rw [h1] at hnx
          clear h1
          go_wp2_with fail
          refine (HP.out _).mono ?_
          rintro e w' ⟨rfl, rfl⟩
          go_wp2
          go_ret2
          exact ⟨by rw [HR.out]; rfl, bal (Below.refl _ _) _⟩
        · have h0 : nx s p ≠ 0 := fun h => by have := (hm.1 h).2; rw [h2] at this; cases this
          have hpre : ∀ w, Calls Tryd.prog 14 #[.string (s.extract p s.size), .string ⟨#[239, 191, 189]⟩] w fun e w' => e = .returned (.bool true) ∧ w' = w := fun w => by have h := hasPrefix_any (s.extract p s.size) ⟨#[239, 191, 189]⟩ hsl (by decide) w; rw [h2] at h; exact h
          have HP : Hid (∀ w, Calls Tryd.prog 14 #[.string (s.extract p s.size), .string ⟨#[239, 191, 189]⟩] w fun e w' => e = .returned (.bool true) ∧ w' = w) := hpre
          have HS : Hid (cntF s (f - 1) (p + nx s p) (k + 1) = cnt s) := cnt_step hp h0 (by omega) HC.out
          rw [h1, nx_width s p h0] at hnx
          have hle2 : p + nx s p ≤ s.size := nx_le s p hp h0
          have hpos : 0 < nx s p := Nat.pos_of_ne_zero h0
          clear hpre hm h0 h2 hle hr h1
          generalize nx s p = n at *
          go_wp2_with fail
          refine (HP.out _).mono ?_
          rintro e w' ⟨rfl, rfl⟩
          go_wp2
          go_roundw
          case rel => exact ⟨p + n, f - 1, k + 1, rfl, by go_num, by omega, hle2, by omega, HS⟩
          case measure => simp; omega
      · have h0 : nx s p ≠ 0 := fun h => h1 (hm.1 h).1
        have HS : Hid (cntF s (f - 1) (p + nx s p) (k + 1) = cnt s) := cnt_step hp h0 (by omega) HC.out
        rw [nx_width s p h0] at hnx
        have hle2 : p + nx s p ≤ s.size := nx_le s p hp h0
        have hpos : 0 < nx s p := Nat.pos_of_ne_zero h0
        have hd : (((Utf8.decode s p).1 : Int) == 65533) = false := by simp; omega
        clear hm h0 hle hr h1
        generalize nx s p = n at *
        generalize (Utf8.decode s p).1 = r at *
        go_wp2
        go_roundw
        case rel => exact ⟨p + n, f - 1, k + 1, rfl, by go_num, by omega, hle2, by omega, HS⟩
        case measure => simp; omega
    · have HR : Hid (cnt s = (k, true)) := by show _ = _; rw [← HC.out, cntF_end s f p k hp]
      have hnx : ∀ ty, (Instr.next (.pointer (some ⟨w.heap.size, 0, none⟩)) true ty).run Tryd.prog (w.iter s p) = _ := fun ty => run_next_end w s p ty hp
      go_wp2
      go_ret2
      exact ⟨by rw [HR.out]; rfl, bal (Below.refl _ _) _⟩
end cin
end Go.Proofs.YtohoajjdoihekaaDoor
