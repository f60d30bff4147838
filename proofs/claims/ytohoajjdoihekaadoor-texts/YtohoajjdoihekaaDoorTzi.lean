/-
  A text into code, plainly: the document's two times through.
-/
import Derived.Test.YtohoajjdoihekaaDoorTzb
import Derived.Test.YtohoajjdoihekaaDoorTzg
set_option linter.unusedVariables false
set_option linter.unusedSimpArgs false
namespace Go.Proofs.YtohoajjdoihekaaDoor
open Go.RowKit
namespace cin
theorem nm_pos {t : ByteArray} (h : nm t = true) : 0 < t.size := by
  refine Nat.pos_of_ne_zero fun e => ?_
  unfold nm at h
  rw [e, nmF_end t 0 0 0 (by omega)] at h
  exact absurd h (by decide)
theorem full_of {t : ByteArray} (h : 0 < t.size) : t.toList.isEmpty = false := by
  rw [Go.ByteArray.toList_eq]
  match hm : t.data.toList with
  | [] => have : t.size = (t.data.toList).length := rfl; rw [hm] at this; have h2 : t.size = 0 := this; omega
  | _ :: _ => rfl
theorem itm_cases (t : ByteArray) : (∃ n c, itm t = ⟨1, n, c, 0⟩ ∧ n.toList.isEmpty = false) ∨ (∃ n, itm t = ⟨2, n, [97, 0, 0], 0⟩ ∧ n.toList.isEmpty = false) ∨ (∃ c, itm t = ⟨0, ⟨#[]⟩, c, 0⟩) ∨ itm t = ⟨0, ⟨#[]⟩, [], 2⟩ ∨ itm t = ⟨0, ⟨#[]⟩, [], 4⟩ := by
  unfold itm
  split
  · rename_i h
    unfold isL at h
    exact Or.inl ⟨_, _, rfl, full_of (nm_pos (Bool.and_eq_true _ _ ▸ h).2)⟩
  · split
    · rename_i h
      unfold isA at h
      exact Or.inr (Or.inl ⟨_, rfl, full_of (nm_pos (Bool.and_eq_true _ _ ▸ h).2)⟩)
    · unfold itN
      split
      · exact Or.inr (Or.inr (Or.inl ⟨_, rfl⟩))
      · split
        · exact Or.inr (Or.inr (Or.inr (Or.inl rfl)))
        · split
          · exact Or.inr (Or.inr (Or.inr (Or.inr rfl)))
          · exact Or.inr (Or.inr (Or.inl ⟨_, rfl⟩))
theorem llk_snoc (t n : ByteArray) (p : Nat) (ls : List (ByteArray × Nat)) : llk t (ls ++ [(n, p)]) = if (llk t ls).isSome then llk t ls else if n = t then some p else none := by
  induction ls with
  | nil => rfl
  | cons x r ih =>
    show (if x.1 = t then some x.2 else llk t (r ++ [(n, p)])) = _
    rw [llk]
    by_cases h : x.1 = t
    · rw [if_pos h, if_pos h]; rfl
    · rw [if_neg h, if_neg h, ih]
/-- the items from the j-th on -/
theorem rl_at {L : List (ByteArray × Nat)} {R : List Ri} {j p : Nat} {x : ByteArray × Nat} (hj : j < L.length) (hx : x = L[j]) (h : R.drop j = rit (L.drop j) p) :
    R.drop j = ⟨itm x.1, x.2, p⟩ :: R.drop (j + 1) ∧ R.drop (j + 1) = rit (L.drop (j + 1)) (p + (itm x.1).cd.length) := by
  have h2 := h
  rw [List.drop_eq_getElem_cons hj, ← hx, rit] at h2
  have h3 : R.drop (j + 1) = rit (L.drop (j + 1)) (p + (itm x.1).cd.length) := by
    rw [← List.drop_drop, h2]; rfl
  exact ⟨by rw [h2, h3], h3⟩
theorem take_at {R : List Ri} {j : Nat} {y : Ri} {r : List Ri} (h : R.drop j = y :: r) : R.take (j + 1) = R.take j ++ [y] := by
  have hl : j < R.length := by
    rcases Nat.lt_or_ge j R.length with h1 | h1
    · exact h1
    · rw [List.drop_of_length_le h1] at h; cases h
  rw [List.take_succ_eq_append_getElem hl]
  rw [List.drop_eq_getElem_cons hl] at h
  injection h with h1 h2
  rw [h1]
/-- the first time through: the labels -/
def Lbs (R : List Ri) (j : Nat) (ls : List (ByteArray × Nat)) : Prop := ∀ t, llk t ls = lkp t (R.take j)
theorem Lbs.no {R : List Ri} {j : Nat} {ls : List (ByteArray × Nat)} {y : Ri} {r : List Ri} (h : Lbs R j ls) (hd : R.drop j = y :: r) (hk : y.i.k ≠ 1) : Lbs R (j + 1) ls := fun t => by
  rw [take_at hd, lkp_snoc, if_neg (fun e => hk e.1 : ¬ (y.i.k = 1 ∧ y.i.nm = t)), h t]
  cases lkp t (R.take j) <;> rfl
theorem Lbs.there {R : List Ri} {j : Nat} {ls : List (ByteArray × Nat)} {y : Ri} {r : List Ri} {q : Nat} (h : Lbs R j ls) (hd : R.drop j = y :: r) (hq : llk y.i.nm ls = some q) : Lbs R (j + 1) ls := fun t => by
  rw [take_at hd, lkp_snoc, ← h t]
  by_cases e : y.i.nm = t
  · rw [← e, hq]; rfl
  · rw [if_neg (fun c => e c.2 : ¬ (y.i.k = 1 ∧ y.i.nm = t))]
    cases llk t ls <;> rfl
theorem Lbs.new {R : List Ri} {j : Nat} {ls : List (ByteArray × Nat)} {y : Ri} {r : List Ri} (h : Lbs R j ls) (hd : R.drop j = y :: r) (hk : y.i.k = 1) : Lbs R (j + 1) (ls ++ [(y.i.nm, y.p)]) := fun t => by
  have a1 : (if y.i.nm = t then some y.p else none) = (if y.i.k = 1 ∧ y.i.nm = t then some y.p else none) := by
    by_cases e : y.i.nm = t
    · rw [if_pos e, if_pos ⟨hk, e⟩]
    · rw [if_neg e, if_neg (fun c => e c.2)]
  rw [take_at hd, lkp_snoc, llk_snoc, ← h t, a1]
theorem Lbs.all {R : List Ri} {j : Nat} {ls : List (ByteArray × Nat)} (h : Lbs R j ls) (hj : R.length ≤ j) (t : ByteArray) : llk t ls = lkp t R := by
  rw [h t, List.take_of_length_le hj]
theorem rn2_go {f : ByteArray → Option Nat} {R r : List Ri} {y : Ri} {j : Nat} {c : List UInt8} {Z : List UInt8 ⊕ (Nat × Nat)} (hd : R.drop j = y :: r) (hf : flt f y = 0) (h : rn2 f (R.drop j) c = Z) : rn2 f r (c ++ cwt f y) = Z := by
  rw [hd, rn2, if_pos hf] at h
  exact h
theorem rn2_end {f : ByteArray → Option Nat} {R r : List Ri} {y : Ri} {j k : Nat} {c : List UInt8} {Z : List UInt8 ⊕ (Nat × Nat)} (hd : R.drop j = y :: r) (hf : flt f y = k) (hk : k ≠ 0) (h : rn2 f (R.drop j) c = Z) : Z = .inr (k, y.a) := by
  rw [hd, rn2, if_neg (by omega), hf] at h
  exact h.symm
theorem bl_add (x y : ByteArray) : bl (x ++ y) = bl x ++ bl y := by
  show (ByteArray.data _).toList = _
  rw [ByteArray.data_append, Array.toList_append]
  rfl
theorem bl_arr (x : ByteArray) : (⟨(bl x).toArray⟩ : ByteArray) = x := bl_inj rfl
theorem size_add (x y : ByteArray) : (x ++ y).size = x.size + y.size := by
  have h := congrArg List.length (bl_add x y)
  rw [List.length_append] at h
  exact h
end cin
end Go.Proofs.YtohoajjdoihekaaDoor
