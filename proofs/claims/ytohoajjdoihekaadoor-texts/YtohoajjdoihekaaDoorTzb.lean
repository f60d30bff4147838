/-
  Labels, the document's way.
-/
import Derived.Test.YtohoajjdoihekaaDoorTx
import Derived.Test.YtohoajjdoihekaaDoorTy
set_option linter.unusedVariables false
set_option linter.unusedSimpArgs false
/-
  A text into code, plainly. No call is walked here.
-/
namespace Go.Proofs.YtohoajjdoihekaaDoor
open Go.RowKit
namespace cin
/-- an item read, its place in runes, its place in the code -/
structure Ri where
  i : It
  a : Nat
  p : Nat
def rit : List (ByteArray × Nat) → Nat → List Ri
  | [], _ => []
  | x :: r, p => ⟨itm x.1, x.2, p⟩ :: rit r (p + (itm x.1).cd.length)
/-- the place of the first label of a name -/
def lkp (n : ByteArray) : List Ri → Option Nat
  | [] => none
  | y :: r => if y.i.k = 1 ∧ y.i.nm = n then some y.p else lkp n r
def flt (lb : ByteArray → Option Nat) (y : Ri) : Nat :=
  if y.i.fl ≠ 0 then y.i.fl else if y.i.k = 1 ∧ lb y.i.nm ≠ some y.p then 3 else if y.i.k = 2 ∧ lb y.i.nm = none then 3 else 0
def cwt (lb : ByteArray → Option Nat) (y : Ri) : List UInt8 :=
  if y.i.k = 2 then [97, UInt8.ofNat ((lb y.i.nm).getD 0 / 256), UInt8.ofNat ((lb y.i.nm).getD 0 % 256)] else y.i.cd
/-- the second time through: the code, or the fault and its place -/
def rn2 (lb : ByteArray → Option Nat) : List Ri → List UInt8 → List UInt8 ⊕ (Nat × Nat)
  | [], c => .inl c
  | y :: r, c => if flt lb y = 0 then rn2 lb r (c ++ cwt lb y) else .inr (flt lb y, y.a)
def rlist (s : ByteArray) : List Ri := rit (spl s) 0
def labs (s : ByteArray) (n : ByteArray) : Option Nat := lkp n (rlist s)
def asm (s : ByteArray) : ByteArray × Nat × Nat :=
  if 2000 < s.size then (⟨#[]⟩, 2, 0)
  else if (cnt s).2 = false then (⟨#[]⟩, 2, (cnt s).1)
  else match rn2 (labs s) (rlist s) [] with
    | .inr (e, a) => (⟨#[]⟩, e, a)
    | .inl c => if 1000 < c.length then (⟨#[]⟩, 4, (cnt s).1) else (⟨c.toArray⟩, 0, 0)
def asmV (s : ByteArray) : Value := .tuple #[.string (asm s).1, .int .i64 ((asm s).2.1 : Int), .int .i64 ((asm s).2.2 : Int)]
theorem rit_len (l : List (ByteArray × Nat)) : ∀ p, (rit l p).length = l.length := by
  induction l with
  | nil => intro p; rfl
  | cons x r ih => intro p; simp [rit, ih]
theorem itm_len (s : ByteArray) : (itm s).cd.length ≤ 33 := by
  unfold itm
  split
  · simp
  · split
    · simp
    · unfold itN
      split
      · simp
      · split
        · simp
        · split
          · simp
          · exact pcode_len _
/-- what was laid so far, and what is to come -/
theorem rit_snoc (l : List (ByteArray × Nat)) (x : ByteArray × Nat) : ∀ p, ∃ q : Nat, rit (l ++ [x]) p = rit l p ++ [⟨itm x.1, x.2, q⟩] ∧ q = ((rit l p).map fun y => y.i.cd.length).sum + p := by
  induction l with
  | nil => intro p; exact ⟨p, rfl, by simp [rit]⟩
  | cons y r ih =>
    intro p
    obtain ⟨q, h1, h2⟩ := ih (p + (itm y.1).cd.length)
    refine ⟨q, by simp [rit, h1], ?_⟩
    rw [h2]
    simp [rit]
    omega
end cin
end Go.Proofs.YtohoajjdoihekaaDoor

namespace Go.Proofs.YtohoajjdoihekaaDoor
open Go.RowKit Go.Lib
namespace cin
theorem str_eq (a b : ByteArray) : (a.toList == b.toList) = decide (a = b) := by
  rw [Go.ByteArray.toList_eq, Go.ByteArray.toList_eq, Bool.eq_iff_iff, beq_iff_eq, decide_eq_true_eq]
  constructor
  · intro h; exact bl_inj h
  · intro h; rw [h]
def llk (t : ByteArray) : List (ByteArray × Nat) → Option Nat
  | [] => none
  | x :: r => if x.1 = t then some x.2 else llk t r
def pz : Option Nat → Int
  | none => -1
  | some p => (p : Int)
theorem llk_step {t : ByteArray} {ls : List (ByteArray × Nat)} {i : Nat} {o : Option Nat} (hi : i < ls.length) (hne : (ls[i]).1 ≠ t) (h : llk t (ls.drop i) = o) : llk t (ls.drop (i + 1)) = o := by
  rw [List.drop_eq_getElem_cons hi, llk, if_neg hne] at h
  exact h
theorem llk_hit {t : ByteArray} {ls : List (ByteArray × Nat)} {i : Nat} {o : Option Nat} (hi : i < ls.length) (he : (ls[i]).1 = t) (h : llk t (ls.drop i) = o) : o = some (ls[i]).2 := by
  rw [List.drop_eq_getElem_cons hi, llk, if_pos he] at h
  exact h.symm
set_option maxRecDepth 100000 in
set_option maxHeartbeats 8000000 in
theorem find_any (ls : List (ByteArray × Nat)) (t : ByteArray) (base : Nat) (v : Value) (hl : ls.length ≤ 2001) (w : World) (ho : w.ownsRow base 47 2 v ls.length (cells2 ls)) : Calls Tryd.prog 13 #[v, .string t] w fun e w' => e = .returned (.int .i64 (pz (llk t ls))) ∧ w' = w := by
  rcases ho.2 with ⟨rfl, hn⟩ | ⟨g, cap, cur, rfl, _⟩
  · have HR : Hid (pz (llk t ls) = -1) := by show _ = _; rw [List.length_eq_zero_iff.1 hn]; rfl
    go_enter Tryd.func13, Tryd.ntmps13
    go_wp2
    go_loopw [5] (fun t5 wr => t5 = .int .i64 0 ∧ Hid (wr = w)) (fun _ _ => 0)
    case atStart => exact ⟨rfl, rfl⟩
    case round =>
      obtain ⟨rfl, HW⟩ := hrel
      go_wp2
      go_ret
      exact ⟨by rw [HR.out]; rfl, HW.out⟩
  · have HO := hid_of ho
    clear ho
    go_enter Tryd.func13, Tryd.ntmps13
    go_wp2
    go_loopw [5] (fun t5 wr => ∃ i : Nat, t5 = .int .i64 (i : Int) ∧ i ≤ ls.length ∧ Hid (llk t (ls.drop i) = llk t ls) ∧ Hid (wr = w)) (fun t5 _ => ls.length - (intOf t5).toNat)
    case atStart => exact ⟨0, rfl, by omega, rfl, rfl⟩
    case round =>
      obtain ⟨i, rfl, hi, HL, HW⟩ := hrel
      have HO2 : Hid (wr.ownsRow base 47 2 (.slice (some ⟨g, 0, none⟩) ls.length cap) ls.length (cells2 ls)) := by show World.ownsRow _ _ _ _ _ _ _; rw [HW.out]; exact HO.out
      by_cases hlt : i < ls.length
      · have hc1 := (HO2.out.cellAt (i * 2) (by omega)).trans (cells2_at ls i hlt).1
        have hc2 := (HO2.out.cellAt (i * 2 + 1) (by omega)).trans (cells2_at ls i hlt).2
        by_cases he : (ls[i]).1 = t
        · have HR := hid_of (llk_hit hlt he HL.out)
          have he2 : ((ls[i]).1.toList == t.toList) = true := by rw [str_eq]; exact decide_eq_true he
          clear he
          go_wp2
          go_ret
          exact ⟨by rw [HR.out]; rfl, HW.out⟩
        · have HR := hid_of (llk_step hlt he HL.out)
          have he2 : ((ls[i]).1.toList == t.toList) = false := by rw [str_eq]; exact decide_eq_false he
          clear he
          go_wp2
          go_roundw
          case rel => exact ⟨i + 1, by go_num, by omega, HR, HW⟩
          case measure => simp [intOf]; omega
      · have HR : Hid (pz (llk t ls) = -1) := by show _ = _; rw [← HL.out, List.drop_of_length_le (by omega)]; rfl
        go_wp2
        go_ret
        exact ⟨by rw [HR.out]; rfl, HW.out⟩
end cin
end Go.Proofs.YtohoajjdoihekaaDoor
