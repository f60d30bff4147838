/-
  A text parted into items, plainly. No call is walked here.
-/
import Derived.Test.YtohoajjdoihekaaDoorTu
set_option linter.unusedVariables false
set_option linter.unusedSimpArgs false
namespace Go.Proofs.YtohoajjdoihekaaDoor
open Go.RowKit
namespace cin
def sepB (c : Nat) : Bool := decide (c = 32 ∨ c = 9 ∨ c = 10 ∨ c = 59)
/-- within a remark behind a sign? -/
def rmk (rm : Bool) (c : Nat) : Bool := decide (c = 59) || (rm && decide (c ≠ 10))
def fin (s : ByteArray) (p : Nat) (cur : Option (Nat × Nat)) : List (ByteArray × Nat) := match cur with
  | some (b, a) => [(s.extract b p, a)]
  | none => []
def splF (s : ByteArray) : Nat → Nat → Nat → Bool → Option (Nat × Nat) → List (ByteArray × Nat)
  | 0, p, _, _, cur => fin s p cur
  | f + 1, p, k, rm, cur => if p < s.size then
      (if (rm || sepB (byt s p)) then fin s p cur ++ splF s f (p + nx s p) (k + 1) (rmk rm (byt s p)) none
       else splF s f (p + nx s p) (k + 1) (rmk rm (byt s p)) (some (cur.getD (p, k))))
    else fin s p cur
/-- a text's items, each with its place in runes -/
def spl (s : ByteArray) : List (ByteArray × Nat) := splF s s.size 0 0 false none
theorem spl_end (s : ByteArray) (f p k : Nat) (rm : Bool) (cur : Option (Nat × Nat)) (h : ¬ p < s.size) : splF s f p k rm cur = fin s p cur := by
  cases f with
  | zero => rfl
  | succ f => rw [splF, if_neg h]
theorem spl_out {s : ByteArray} {f p k : Nat} {rm : Bool} {cur : Option (Nat × Nat)} {acc T : List (ByteArray × Nat)} (hp : p < s.size) (hf : 0 < f) (ho : (rm || sepB (byt s p)) = true) (h : acc ++ splF s f p k rm cur = T) :
    (acc ++ fin s p cur) ++ splF s (f - 1) (p + nx s p) (k + 1) (rmk rm (byt s p)) none = T := by
  obtain ⟨g, rfl⟩ : ∃ g, f = g + 1 := ⟨f - 1, by omega⟩
  rw [splF, if_pos hp, ho, if_pos rfl] at h
  rw [List.append_assoc]
  exact h
theorem spl_in {s : ByteArray} {f p k : Nat} {rm : Bool} {cur : Option (Nat × Nat)} {acc T : List (ByteArray × Nat)} (hp : p < s.size) (hf : 0 < f) (ho : (rm || sepB (byt s p)) = false) (h : acc ++ splF s f p k rm cur = T) :
    acc ++ splF s (f - 1) (p + nx s p) (k + 1) (rmk rm (byt s p)) (some (cur.getD (p, k))) = T := by
  obtain ⟨g, rfl⟩ : ∃ g, f = g + 1 := ⟨f - 1, by omega⟩
  rw [splF, if_pos hp, ho, if_neg (by decide)] at h
  exact h
theorem ext_size {s : ByteArray} {b p : Nat} (hp : p ≤ s.size) : (s.extract b p).size = p - b := by rw [ByteArray.size_extract]; omega
def Fit (s : ByteArray) (x : ByteArray × Nat) : Prop := Whole x.1 ∧ 0 < x.1.size ∧ x.1.size ≤ s.size ∧ x.2 ≤ s.size
theorem fin_fit {s : ByteArray} {p : Nat} {cur : Option (Nat × Nat)} (hp : p ≤ s.size) (hc : ∀ b a, cur = some (b, a) → Run s b p ∧ b < p ∧ a ≤ s.size) : ∀ x ∈ fin s p cur, Fit s x := by
  intro x hx
  match cur with
  | none => cases hx
  | some (b, a) =>
    obtain ⟨h1, h2, h3⟩ := hc b a rfl
    have : x = (s.extract b p, a) := List.mem_singleton.1 hx
    subst this
    have := ext_size (b := b) hp
    exact ⟨h1.whole hp, by show 0 < (s.extract b p).size; omega, by show (s.extract b p).size ≤ _; omega, h3⟩
theorem splF_fit {s : ByteArray} : ∀ (f p k : Nat) (rm : Bool) (cur : Option (Nat × Nat)), p ≤ s.size → k ≤ p → s.size ≤ p + f → (cntF s f p k).2 = true → (∀ b a, cur = some (b, a) → Run s b p ∧ b < p ∧ a ≤ s.size) → ∀ x ∈ splF s f p k rm cur, Fit s x
  | 0, p, k, rm, cur, hp, hk, hf, hv, hc => fin_fit hp hc
  | f + 1, p, k, rm, cur, hp, hk, hf, hv, hc => by
    intro x hx
    rw [splF] at hx
    by_cases hlt : p < s.size
    · rw [if_pos hlt] at hx
      obtain ⟨h0, hv2⟩ := cntF_ok hlt (by omega) hv
      have hle := nx_le s p hlt h0
      split at hx
      · rcases List.mem_append.1 hx with h | h
        · exact fin_fit hp hc x h
        · exact splF_fit f _ _ _ none hle (by omega) (by omega) hv2 (fun b a e => by cases e) x h
      · refine splF_fit f _ _ _ _ hle (by omega) (by omega) hv2 (fun b a e => ?_) x hx
        match cur with
        | none =>
          have e2 : (p, k) = (b, a) := by injection e
          injection e2 with h1 h2
          subst h1 h2
          exact ⟨Run.here.step hlt h0, by omega, by omega⟩
        | some (b', a') =>
          have e2 : (b', a') = (b, a) := by injection e
          injection e2 with h1 h2
          subst h1 h2
          obtain ⟨g1, g2, g3⟩ := hc b' a' rfl
          exact ⟨g1.step hlt h0, by omega, g3⟩
    · rw [if_neg hlt] at hx
      exact fin_fit hp hc x hx
theorem spl_fit {s : ByteArray} (h : Whole s) : ∀ x ∈ spl s, Fit s x := splF_fit s.size 0 0 false none (by omega) (by omega) (by omega) h.cnt (fun b a e => by cases e)
theorem fin_len (s : ByteArray) (p : Nat) (cur : Option (Nat × Nat)) : (fin s p cur).length ≤ 1 := by
  match cur with
  | none => exact Nat.zero_le _
  | some (b, a) => exact Nat.le_refl _
theorem splF_len (s : ByteArray) : ∀ (f p k : Nat) (rm : Bool) (cur : Option (Nat × Nat)), (splF s f p k rm cur).length ≤ f + 1
  | 0, p, k, rm, cur => fin_len s p cur
  | f + 1, p, k, rm, cur => by
    have h1 := fin_len s p cur
    rw [splF]
    split
    · split
      · rw [List.length_append]
        have := splF_len s f (p + nx s p) (k + 1) (rmk rm (byt s p)) none
        omega
      · have := splF_len s f (p + nx s p) (k + 1) (rmk rm (byt s p)) (some (cur.getD (p, k)))
        omega
    · omega
theorem spl_len (s : ByteArray) : (spl s).length ≤ s.size + 1 := splF_len s _ _ _ _ _
-- one rune of a text
theorem bl_size {s : ByteArray} : (bl s).length = s.size := rfl
theorem ceq (s : ByteArray) (p : Nat) (x : UInt8) (hx : x.toNat < 128) (hp : p < s.size) (h0 : nx s p ≠ 0) : ((s.extract p (p + nx s p)).toList == [x]) = decide (byt s p = x.toNat) := by
  have hle := nx_le s p hp h0
  have hsz := ext_size (b := p) hle
  have hb := byt_sub s p (p + nx s p) 0 (by omega)
  rw [Nat.add_zero] at hb
  rw [Go.ByteArray.toList_eq, Bool.eq_iff_iff, beq_iff_eq, decide_eq_true_eq, ← hb, byt_bl]
  show bl _ = [x] ↔ _
  constructor
  · intro e; rw [e]; rfl
  · intro e
    have h1 : nx s p = 1 := nx_ascii s p (by rw [← hb, byt_bl, e]; exact hx)
    rw [h1] at e hsz ⊢
    match hm : bl (s.extract p (p + 1)) with
    | [] => have := bl_size (s := s.extract p (p + 1)); rw [hm] at this; simp at this; omega
    | [c] =>
      rw [hm] at e
      have : c = x := UInt8.toNat_inj.1 e
      rw [this]
    | c :: d :: r => have := bl_size (s := s.extract p (p + 1)); rw [hm] at this; simp at this; omega
theorem ext_cat (s : ByteArray) (b p q : Nat) (h1 : b ≤ p) (h2 : p ≤ q) : s.extract b p ++ s.extract p q = s.extract b q := by
  apply bl_inj
  show (ByteArray.data _).toList = _
  rw [ByteArray.data_append, Array.toList_append]
  show bl (s.extract b p) ++ bl (s.extract p q) = _
  rw [bl_sub, bl_sub, bl_sub]
  have e1 : (bl s).drop p = ((bl s).drop b).drop (p - b) := by rw [List.drop_drop]; congr 1; omega
  rw [e1, show q - p = (q - b) - (p - b) by omega]
  conv => rhs; rw [show q - b = (p - b) + (q - b - (p - b)) by omega]
  exact List.take_add.symm
theorem ext_nil (s : ByteArray) (p : Nat) : s.extract p p = ⟨#[]⟩ := by
  apply bl_inj
  rw [bl_sub, Nat.sub_self]
  rfl
/-- an item's sign, by its rune -/
theorem rune_is (s : ByteArray) (p x : Nat) (hx : x < 128) (h0 : nx s p ≠ 0) : (Utf8.decode s p).1 = x ↔ byt s p = x := by
  obtain ⟨h1, h2⟩ := rune_small s p h0
  constructor
  · intro e
    have h := h1.1 (by omega)
    rw [← h2 h, e]
  · intro e
    rw [h2 (nx_ascii s p (by omega)), e]
def cells2 (l : List (ByteArray × Nat)) : List Value := l.flatMap fun x => [.string x.1, .int .i64 (x.2 : Int)]
theorem cells2_len (l : List (ByteArray × Nat)) : (cells2 l).length = l.length * 2 := by
  unfold cells2
  induction l with
  | nil => rfl
  | cons x r ih => rw [List.flatMap_cons, List.length_append, ih]; show 2 + r.length * 2 = (r.length + 1) * 2; omega
theorem cells2_snoc (l : List (ByteArray × Nat)) (t : ByteArray) (a : Nat) : cells2 (l ++ [(t, a)]) = cells2 l ++ [.string t, .int .i64 (a : Int)] := by
  unfold cells2
  rw [List.flatMap_append]
  rfl
theorem cells2_at (l : List (ByteArray × Nat)) (i : Nat) (h : i < l.length) : (cells2 l)[i * 2]? = some (.string (l[i]).1) ∧ (cells2 l)[i * 2 + 1]? = some (.int .i64 ((l[i]).2 : Int)) := by
  induction l generalizing i with
  | nil => exact absurd h (Nat.not_lt_zero _)
  | cons x r ih =>
    have e : cells2 (x :: r) = .string x.1 :: .int .i64 (x.2 : Int) :: cells2 r := by unfold cells2; rw [List.flatMap_cons]; rfl
    rw [e]
    cases i with
    | zero => exact ⟨rfl, rfl⟩
    | succ i =>
      have h2 := ih i (by simpa using h)
      rw [show (i + 1) * 2 = i * 2 + 2 by omega]
      exact h2
end cin
end Go.Proofs.YtohoajjdoihekaaDoor
