/-
  A law for a statement whose operations come up in whatever order: by an invariant, and a fact for each operation that has come up: no order is gone through.
-/
import Derived.WalkKit
import Derived.OrdersHeld
set_option linter.unusedVariables false
set_option linter.unusedSimpArgs false
namespace Go.Proofs.Ytohoajjdoihekaa
namespace cin
theorem countP_lt {p p' : Nat → Bool} (h : ∀ j, p' j = true → p j = true) : ∀ (l : List Nat) (i : Nat), i ∈ l → p i = true → p' i = false → l.countP p' < l.countP p
  | [], i, hi, _, _ => by cases hi
  | x :: l, i, hi, h1, h2 => by
    have mono : l.countP p' ≤ l.countP p := List.countP_mono_left fun j _ hj => h j hj
    rcases List.mem_cons.1 hi with rfl | hi
    · rw [List.countP_cons, List.countP_cons, h1, h2]; simp; omega
    · have ih := countP_lt h l i hi h1 h2
      rw [List.countP_cons, List.countP_cons]
      by_cases hx : p' x = true
      · rw [if_pos hx, if_pos (h x hx)]; omega
      · rw [if_neg hx]; split <;> omega
/-- does operation j wait for operation i? -/
def depB (ops : Array Oper) (j i : Nat) : Bool := ((ops[j]?).map fun o => o.after.any fun e => Region.binds .any e && e.on == i).getD false
variable {P : Program} {ops : Array Oper} {Q : Exit → Act → World → Prop}
/-- 'G': what holds throughout. 'F i': what holds once operation i has come up. -/
theorem wpAny_inv (G : Act → World → Prop) (F : Nat → Act → World → Prop)
    (hstep : ∀ (i : Nat) (o : Oper), ops[i]? = some o → ∀ a w, G a w → (∀ e ∈ o.after, Region.binds .any e = true → F e.on a w) →
      wpOp P ops Q i (fun a' w' => G a' w' ∧ F i a' w' ∧ ∀ j, j ≠ i → depB ops j i = false → F j a w → F j a' w') a w)
    (hdone : ∀ a w, G a w → (∀ i, i < ops.size → F i a w) → Q .normal a w) :
    ∀ (fuel : Nat) (listed : Array Bool) (a : Act) (w : World), (List.range ops.size).countP (fun i => !listed.getD i true) ≤ fuel → listed.size = ops.size →
      G a w → (∀ i, listed.getD i false = true → F i a w) → (Region.ready .any ops listed = [] → ∀ i, i < ops.size → listed.getD i false = true) →
      (∀ l : Array Bool, l.size = ops.size → Region.ready .any ops l = [] → ∀ i, i < ops.size → l.getD i false = true) →
      (∀ j i, listed.getD j false = true → depB ops j i = true → listed.getD i false = true) → wpAny P .any ops Q fuel listed a w := by
  intro fuel
  induction fuel with
  | zero =>
    intro listed a w hc hs hG hF hr hall hcl
    have h0 : Region.ready .any ops listed = [] := by
      apply List.eq_nil_iff_forall_not_mem.2
      intro i hi
      simp only [Region.ready, List.mem_filter, Bool.and_eq_true] at hi
      have hz : (List.range ops.size).countP (fun i => !listed.getD i true) = 0 := by omega
      rw [List.countP_eq_zero] at hz
      exact hz i hi.1 hi.2.1
    exact ⟨h0, hdone a w hG fun i hi => hF i (hr h0 i hi)⟩
  | succ fuel ih =>
    intro listed a w hc hs hG hF hr hall hcl
    refine ⟨fun h0 => hdone a w hG fun i hi => hF i (hr h0 i hi), fun i hi => ?_⟩
    have hi' := hi
    simp only [Region.ready, List.mem_filter, Bool.and_eq_true, List.mem_range] at hi
    obtain ⟨hlt, hl, haft⟩ := hi
    have ho : ops[i]? = some ops[i] := getElem?_pos ops i hlt
    rw [ho] at haft
    simp only [Option.map_some, Option.getD_some, Array.all_eq_true', Bool.or_eq_true, Bool.not_eq_true'] at haft
    have hli : i < listed.size := by omega
    refine wpOp_mono ?_ (hstep i _ ho a w hG fun e he hb => ?_)
    · rintro a' w' ⟨hG', hFi, hkeep⟩
      have hnf : listed.getD i false = false := by
        simp only [Array.getD_eq_getD_getElem?, getElem?_pos listed i hli, Option.getD_some] at hl ⊢
        simpa using hl
      refine ih _ a' w' ?_ (by simp [hs]) hG' ?_ (hall _ (by simp [hs])) hall ?_
      · have := countP_lt (p := fun i => !listed.getD i true) (p' := fun j => !(listed.setIfInBounds i true).getD j true) ?_ (List.range ops.size) i (by simpa using hlt) (by simpa using hl) ?_
        · omega
        · intro j hj
          simp only [Array.getD_eq_getD_getElem?, Array.getElem?_setIfInBounds] at hj ⊢
          by_cases e : i = j
          · subst e; simp [hli] at hj
          · simpa [e] using hj
        · simp [Array.getD_eq_getD_getElem?, hli]
      · intro j hj
        by_cases e : i = j
        · subst e; exact hFi
        · have hjl : listed.getD j false = true := by simpa [Array.getD_eq_getD_getElem?, Array.getElem?_setIfInBounds, e] using hj
          refine hkeep j (fun h => e h.symm) ?_ (hF j hjl)
          cases hd : depB ops j i
          · rfl
          · rw [hcl j i hjl hd] at hnf; cases hnf
      · intro j k hj hd
        have up : listed.getD k false = true → (listed.setIfInBounds i true).getD k false = true := by
          intro h
          by_cases e : i = k
          · subst e; rw [h] at hnf; cases hnf
          · simpa [Array.getD_eq_getD_getElem?, Array.getElem?_setIfInBounds, e] using h
        by_cases e : i = j
        · subst e
          refine up ?_
          unfold depB at hd
          rw [ho] at hd
          simp only [Option.map_some, Option.getD_some, Array.any_eq_true', Bool.and_eq_true, beq_iff_eq] at hd
          obtain ⟨x, hx, hb, rfl⟩ := hd
          exact (haft x hx).resolve_left (by rw [hb]; simp)
        · refine up (hcl j k ?_ hd)
          simpa [Array.getD_eq_getD_getElem?, Array.getElem?_setIfInBounds, e] using hj
    · exact hF _ ((haft e he).resolve_left (by rw [hb]; simp))
/-- does each operation wait for earlier ones alone? -/
def downB (ops : Array Oper) : Bool := (List.range ops.size).all fun i => ((ops[i]?).map fun o => o.after.all fun e => !Region.binds .any e || decide (e.on < i)).getD true
theorem hall_of (h : downB ops = true) : ∀ l : Array Bool, l.size = ops.size → Region.ready .any ops l = [] → ∀ i, i < ops.size → l.getD i false = true := by
  intro l hl hr i
  induction i using Nat.strongRecOn with
  | _ i ih =>
    intro hi
    unfold downB at h
    have hd := List.all_eq_true.1 h i (by simpa using hi)
    have ho : ops[i]? = some ops[i] := getElem?_pos ops i hi
    rw [ho] at hd
    simp only [Option.map_some, Option.getD_some, Array.all_eq_true', Bool.or_eq_true, Bool.not_eq_true', decide_eq_true_eq] at hd
    cases hc : l.getD i false
    · exfalso
      have hm : i ∈ Region.ready .any ops l := by
        simp only [Region.ready, List.mem_filter, Bool.and_eq_true, List.mem_range]
        refine ⟨hi, ?_, ?_⟩
        · have hli : i < l.size := by omega
          simp only [Array.getD_eq_getD_getElem?, getElem?_pos l i hli, Option.getD_some] at hc ⊢
          simp [hc]
        · rw [ho]
          simp only [Option.map_some, Option.getD_some, Array.all_eq_true', Bool.or_eq_true, Bool.not_eq_true']
          intro e he
          rcases hd e he with hb | hlt
          · exact Or.inl hb
          · exact Or.inr (ih e.on hlt (by omega))
      rw [hr] at hm
      cases hm
    · rfl
/-- THE LAW. -/
theorem wp_region_inv {id : Nat} {a : Act} {w : World} (hm : P.follows .mixedOrders = true) (G : Act → World → Prop) (F : Nat → Act → World → Prop)
    (hall : ∀ l : Array Bool, l.size = ops.size → Region.ready .any ops l = [] → ∀ i, i < ops.size → l.getD i false = true) (h0 : G a w.drew)
    (hstep : ∀ (i : Nat) (o : Oper), ops[i]? = some o → ∀ a w, G a w → (∀ e ∈ o.after, Region.binds .any e = true → F e.on a w) →
      wpOp P ops Q i (fun a' w' => G a' w' ∧ F i a' w' ∧ ∀ j, j ≠ i → depB ops j i = false → F j a w → F j a' w') a w)
    (hdone : ∀ a w, G a w → (∀ i, i < ops.size → F i a w) → Q .normal a w) : (Code.region id ops true).wp P Q a w := by
  refine wp_region_any hm (wpAny_inv G F hstep hdone _ _ a _ ?_ (by simp) h0 ?_ (hall _ (by simp)) hall ?_)
  · refine Nat.le_trans List.countP_le_length (by simp)
  · intro i hi
    simp [Array.getD_eq_getD_getElem?, Array.getElem?_replicate] at hi
    split at hi <;> simp at hi
  · intro i _ hi
    simp [Array.getD_eq_getD_getElem?, Array.getElem?_replicate] at hi
    split at hi <;> simp at hi
end cin
end Go.Proofs.Ytohoajjdoihekaa
