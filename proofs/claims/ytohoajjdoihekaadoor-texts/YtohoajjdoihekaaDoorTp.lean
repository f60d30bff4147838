/-
  Names of instructions: both ways give one number. No call is walked here.
-/
import Derived.Test.YtohoajjdoihekaaDoorTo
set_option linter.unusedVariables false
set_option linter.unusedSimpArgs false
namespace Go.Proofs.YtohoajjdoihekaaDoor
open Go.RowKit
namespace cin
def namedL (l : List UInt8) : Option Nat := ((lk tabRec l).orElse fun _ => lk tabCmp l).orElse fun _ => (lk tabSur l).orElse fun _ => (lk tabKee l).orElse fun _ => (rowA l 16 0).orElse fun _ => rowB l 5 0
def rnmL (l : List UInt8) : Int := match fnd nsA l 12 0 with
  | some i => (0 : Int) + i
  | none => match fnd nsB l 14 0 with
    | some i => (16 : Int) + i
    | none => match fnd nsC l 15 0 with
      | some i => (48 : Int) + i
      | none => match fnd nsD l 15 0 with
        | some i => (80 : Int) + i
        | none => match rowR l 16 1 with
          | some v => (v : Int)
          | none => match lk tabZ l with
            | some v => (v : Int)
            | none => -1
theorem named_l (s : ByteArray) : named s = namedL (bl s) := rfl
theorem rnm_l (s : ByteArray) : rnm s = rnmL (bl s) := rfl
/-- a number, or -1 -/
def orm (o : Option Nat) : Int := match o with
  | some v => (v : Int)
  | none => -1
def rowKeys : List (List UInt8) := ((List.range 16).map fun i => bl (dup i)) ++ (((List.range 16).map fun i => bl (swp i)) ++ (List.range 5).map fun i => bl (lgs i))
def keys : List (List UInt8) := (tabRec.map Prod.fst) ++ ((tabCmp.map Prod.fst) ++ ((tabSur.map Prod.fst) ++ ((tabKee.map Prod.fst) ++ rowKeys)))
theorem keys_hit : (keys.all fun l => rnmL l == orm (namedL l)) = true := by kernel_rfl
theorem lk_out : ∀ (tab : List (List UInt8 × Nat)) (l : List UInt8), (∀ p ∈ tab, p.1 ≠ l) → lk tab l = none
  | [], _, _ => rfl
  | (a, v) :: r, l, h => by
    rw [lk, if_neg (fun e => h (a, v) List.mem_cons_self e.symm)]
    exact lk_out r l fun p hp => h p (List.mem_cons_of_mem _ hp)
theorem fnd_out (ns : List ByteArray) (l : List UInt8) : ∀ f i, (∀ j, i ≤ j → j < i + f → bl (ns.getD j ⟨#[]⟩) ≠ l) → fnd ns l f i = none
  | 0, _, _ => rfl
  | f + 1, i, h => by
    rw [fnd, if_neg (h i (by omega) (by omega))]
    exact fnd_out ns l f (i + 1) fun j h1 h2 => h j (by omega) (by omega)
theorem rowA_out (l : List UInt8) : ∀ f i, (∀ j, i ≤ j → j < i + f → l ≠ bl (dup j) ∧ l ≠ bl (swp j)) → rowA l f i = none
  | 0, _, _ => rfl
  | f + 1, i, h => by
    have h0 := h i (by omega) (by omega)
    rw [rowA, if_neg h0.1, if_neg h0.2]
    exact rowA_out l f (i + 1) fun j h1 h2 => h j (by omega) (by omega)
theorem rowB_out (l : List UInt8) : ∀ f i, (∀ j, i ≤ j → j < i + f → l ≠ bl (lgs j)) → rowB l f i = none
  | 0, _, _ => rfl
  | f + 1, i, h => by
    rw [rowB, if_neg (h i (by omega) (by omega))]
    exact rowB_out l f (i + 1) fun j h1 h2 => h j (by omega) (by omega)
theorem rowR_out (l : List UInt8) : ∀ f i, (∀ j, i ≤ j → j < i + f → 1 ≤ j ∧ l ≠ bl (dup (j - 1)) ∧ l ≠ bl (swp (j - 1)) ∧ (j ≤ 5 → l ≠ bl (lgs (j - 1)))) → rowR l f i = none
  | 0, _, _ => rfl
  | f + 1, i, h => by
    obtain ⟨h1, h2, h3, h4⟩ := h i (by omega) (by omega)
    have e : i - 1 + 1 = i := by omega
    unfold dup at h2
    unfold swp at h3
    unfold lgs at h4
    rw [e] at h2 h3
    rw [rowR, if_neg h2, if_neg h3, if_neg (fun k => h4 k.1 k.2)]
    exact rowR_out l f (i + 1) fun j h1 h2 => h j (by omega) (by omega)
theorem sub_keys (tab : List (List UInt8 × Nat)) (h : (tab.all fun p => keys.contains p.1) = true) (l : List UInt8) (hl : l ∉ keys) : lk tab l = none :=
  lk_out tab l fun p hp e => hl (by
    have := List.all_eq_true.1 h p hp
    rw [e] at this
    simpa using this)
theorem sub_names (ns : List ByteArray) (n : Nat) (h : ((List.range n).all fun j => keys.contains (bl (ns.getD j ⟨#[]⟩)) || (bl (ns.getD j ⟨#[]⟩)).isEmpty) = true) (l : List UInt8) (hl : l ∉ keys) (hne : l ≠ []) : fnd ns l n 0 = none :=
  fnd_out ns l n 0 fun j _ hj e => by
    have := List.all_eq_true.1 h j (by simpa using hj)
    rw [e] at this
    simp only [Bool.or_eq_true, List.contains_eq_mem, decide_eq_true_eq, List.isEmpty_iff] at this
    exact this.elim hl hne
theorem dup_key (j : Nat) (h : j < 16) : bl (dup j) ∈ keys := by
  unfold keys rowKeys
  simp only [List.mem_append, List.mem_map, List.mem_range]
  exact Or.inr (Or.inr (Or.inr (Or.inr (Or.inl ⟨j, h, rfl⟩))))
theorem swp_key (j : Nat) (h : j < 16) : bl (swp j) ∈ keys := by
  unfold keys rowKeys
  simp only [List.mem_append, List.mem_map, List.mem_range]
  exact Or.inr (Or.inr (Or.inr (Or.inr (Or.inr (Or.inl ⟨j, h, rfl⟩)))))
theorem lgs_key (j : Nat) (h : j < 5) : bl (lgs j) ∈ keys := by
  unfold keys rowKeys
  simp only [List.mem_append, List.mem_map, List.mem_range]
  exact Or.inr (Or.inr (Or.inr (Or.inr (Or.inr (Or.inr ⟨j, h, rfl⟩)))))
/-- BOTH WAYS GIVE ONE NUMBER. -/
theorem names_agree (s : ByteArray) (hne : s.size ≠ 0) : rnm s = orm (named s) := by
  rw [named_l, rnm_l]
  have hl : bl s ≠ [] := fun e => hne (by have := congrArg List.length e; exact this)
  generalize bl s = l at *
  by_cases h : l ∈ keys
  · exact beq_iff_eq.1 (List.all_eq_true.1 keys_hit l h)
  · have hd : ∀ j, j < 16 → l ≠ bl (dup j) := fun j hj e => h (e ▸ dup_key j hj)
    have hsw : ∀ j, j < 16 → l ≠ bl (swp j) := fun j hj e => h (e ▸ swp_key j hj)
    have hg : ∀ j, j < 5 → l ≠ bl (lgs j) := fun j hj e => h (e ▸ lgs_key j hj)
    have n1 : namedL l = none := by
      unfold namedL
      rw [sub_keys tabRec (by kernel_rfl) l h, sub_keys tabCmp (by kernel_rfl) l h, sub_keys tabSur (by kernel_rfl) l h, sub_keys tabKee (by kernel_rfl) l h, rowA_out l 16 0 (fun j _ hj => ⟨hd j (by omega), hsw j (by omega)⟩), rowB_out l 5 0 (fun j _ hj => hg j (by omega))]
      rfl
    have n2 : rnmL l = -1 := by
      unfold rnmL
      rw [sub_names nsA 12 (by kernel_rfl) l h hl, sub_names nsB 14 (by kernel_rfl) l h hl, sub_names nsC 15 (by kernel_rfl) l h hl, sub_names nsD 15 (by kernel_rfl) l h hl, rowR_out l 16 1 (fun j h1 hj => ⟨h1, hd _ (by omega), hsw _ (by omega), fun h5 => hg _ (by omega)⟩), sub_keys tabZ (by kernel_rfl) l h]
    rw [n1, n2]
    rfl
end cin
end Go.Proofs.YtohoajjdoihekaaDoor
