/-
  A law for a statement whose operations come up in whatever order and each yield a value of which something is known (a slice of its own, say, wherever that was laid).
-/
import Derived.Test.YtohoajjdoihekaaTab
set_option linter.unusedVariables false
set_option linter.unusedSimpArgs false
namespace Go.Proofs.Ytohoajjdoihekaa
namespace cin
variable {P : Program} {ops : Array Oper} {Q : Exit → Act → World → Prop}
def valo (s : Act) : Option Nat → Value
  | some d => s.tmps.getD d undef
  | none => undef
def zipo : List (Option Nat × (Value → World → Prop)) → List Value → List (Nat × Value)
  | (some d, _) :: l, v :: vs => (d, v) :: zipo l vs
  | (none, _) :: l, _ :: vs => zipo l vs
  | _, _ => []
theorem zipo_map (s : Act) : ∀ tab : List (Option Nat × (Value → World → Prop)), zipo tab (tab.map fun p => valo s p.1) = (tab.filterMap Prod.fst).map fun d => (d, s.tmps.getD d undef)
  | [] => rfl
  | (some d, T) :: l => by
    show (d, _) :: zipo l _ = _
    rw [zipo_map s l]; rfl
  | (none, T) :: l => by
    show zipo l _ = _
    rw [zipo_map s l]; rfl
theorem putn (s : Act) (v : Value) : s.put none v = s := rfl
theorem nodup_fst : ∀ (tab : List (Option Nat × (Value → World → Prop))), (tab.filterMap Prod.fst).Nodup → ∀ (i j d : Nat) (T T' : Value → World → Prop), tab[i]? = some (some d, T) → tab[j]? = some (some d, T') → i = j
  | [], _, i, _, _, _, _, h, _ => by simp at h
  | p :: l, hn, 0, 0, _, _, _, _, _ => rfl
  | p :: l, hn, 0, j + 1, d, T, T', h, h' => by
    obtain rfl : p = (some d, T) := by simpa using h
    exfalso
    have hm : d ∈ l.filterMap Prod.fst := List.mem_filterMap.2 ⟨(some d, T'), List.mem_of_getElem? (by simpa using h'), rfl⟩
    have : (d :: l.filterMap Prod.fst).Nodup := hn
    exact (List.nodup_cons.1 this).1 hm
  | p :: l, hn, i + 1, 0, d, T, T', h, h' => by
    obtain rfl : p = (some d, T') := by simpa using h'
    exfalso
    have hm : d ∈ l.filterMap Prod.fst := List.mem_filterMap.2 ⟨(some d, T), List.mem_of_getElem? (by simpa using h), rfl⟩
    have : (d :: l.filterMap Prod.fst).Nodup := hn
    exact (List.nodup_cons.1 this).1 hm
  | p :: l, hn, i + 1, j + 1, d, T, T', h, h' => by
    have hn' : (l.filterMap Prod.fst).Nodup := by
      obtain ⟨o, T0⟩ := p
      cases o with
      | none => exact hn
      | some d0 => exact (List.nodup_cons.1 (show (d0 :: l.filterMap Prod.fst).Nodup from hn)).2
    rw [nodup_fst l hn' i j d T T' (by simpa using h) (by simpa using h')]
/-- THE LAW. 'S': what holds of the world throughout. 'tab': of each operation the slot that it writes (if any) and what is known of its value. 'R i': what operation i may do to the world. -/
theorem wp_region_pred {id : Nat} {a : Act} {w : World} (hm : P.follows .mixedOrders = true) (S : World → Prop) (R : Nat → World → World → Prop) (tab : List (Option Nat × (Value → World → Prop))) (hdown : downB ops = true)
    (hlen : tab.length = ops.size) (hnd : decide (tab.filterMap Prod.fst).Nodup = true) (hlt0 : ((tab.filterMap Prod.fst).all fun d => decide (d < a.tmps.size)) = true) (hS : S w.drew)
    (base : List (Nat × Value)) (hbase : ∀ p ∈ base, a.tmps.getD p.1 undef = p.2) (hapart : (base.all fun p => !(tab.filterMap Prod.fst).contains p.1) = true)
    (hstab : ∀ (i j : Nat) (d : Option Nat) (T : Value → World → Prop), tab[j]? = some (d, T) → i ≠ j → ∀ v x x', S x → R i x x' → T v x → T v x')
    (hstep : ∀ (i : Nat) (o : Oper) (d : Option Nat) (T : Value → World → Prop), ops[i]? = some o → tab[i]? = some (d, T) → ∀ s x, S x → (∀ p ∈ base, s.tmps.getD p.1 undef = p.2) →
      (∀ e ∈ o.after, Region.binds .any e = true → ∀ (d' : Option Nat) (T' : Value → World → Prop), tab[e.on]? = some (d', T') → T' (valo s d') x) →
      (Region.wanted o (yielded ops s.tmps) = true ∧ ∀ K : Act → World → Prop, (∀ v x', S x' → R i x x' → (d = none → v = undef) → T v x' → K (s.put d v) x') → Oper.wp P o s x K Q))
    (hdone : ∀ (vs : List Value) x, S x → vs.length = tab.length → (∀ (i : Nat) (d : Option Nat) (T : Value → World → Prop), tab[i]? = some (d, T) → T (vs.getD i undef) x) → Q .normal (fill a (zipo tab vs)) x) : (Code.region id ops true).wp P Q a w := by
  have hnd := of_decide_eq_true hnd
  have hlt : ∀ d, d ∈ tab.filterMap Prod.fst → d < a.tmps.size := fun d hd => of_decide_eq_true (List.all_eq_true.1 hlt0 d hd)
  have hap : ∀ p ∈ base, p.1 ∉ tab.filterMap Prod.fst := fun p hp hm => by
    have := List.all_eq_true.1 hapart p hp
    simp only [Bool.not_eq_true', List.contains_eq_mem, decide_eq_false_iff_not] at this
    exact this hm
  refine wp_region_inv hm (fun s x => S x ∧ s.tmps.size = a.tmps.size ∧ s.defers = a.defers ∧ (∀ k, k ∉ tab.filterMap Prod.fst → s.tmps.getD k undef = a.tmps.getD k undef))
    (fun i s x => ∀ (d : Option Nat) (T : Value → World → Prop), tab[i]? = some (d, T) → T (valo s d) x) (hall_of hdown) ⟨hS, rfl, rfl, fun _ _ => rfl⟩ ?_ ?_
  · rintro i o ho s x ⟨hs, hsz, hdf, hout⟩ hdep
    have hi : i < tab.length := by rw [hlen]; exact (Array.getElem?_eq_some_iff.1 ho).1
    obtain ⟨⟨d, T⟩, hdv⟩ : ∃ p, tab[i]? = some p := ⟨_, List.getElem?_eq_getElem hi⟩
    have hmem : (d, T) ∈ tab := List.mem_of_getElem? hdv
    refine wpOp_step ho fun K hK => ?_
    obtain ⟨hw, hstep'⟩ := hstep i o d T ho hdv s x hs (fun p hp => (hout p.1 (hap p hp)).trans (hbase p hp)) hdep
    rw [if_pos hw]
    refine hstep' K fun v x' hs' hr hv ht => ?_
    cases d with
    | none =>
      refine hK _ _ ⟨⟨hs', hsz, hdf, hout⟩, ?_, ?_⟩
      · intro d' T' h'
        rw [hdv] at h'
        obtain ⟨rfl, rfl⟩ := Prod.mk.inj (Option.some.inj h')
        rw [hv rfl] at ht
        exact ht
      · intro j hj _ hF d' T' h'
        exact hstab i j d' T' h' (fun e => hj e.symm) _ _ _ hs hr (hF d' T' h')
    | some d =>
      have hdm : d ∈ tab.filterMap Prod.fst := List.mem_filterMap.2 ⟨_, hmem, rfl⟩
      have hd : d < s.tmps.size := by rw [hsz]; exact hlt _ hdm
      refine hK _ _ ⟨⟨hs', by rw [put_size, hsz], by rw [put_defers, hdf], ?_⟩, ?_, ?_⟩
      · intro k hk
        rw [put_getD _ _ _ _ hd, if_neg (fun (h : k = d) => hk (h ▸ hdm)), hout k hk]
      · intro d' T' h'
        rw [hdv] at h'
        obtain ⟨rfl, rfl⟩ := Prod.mk.inj (Option.some.inj h')
        show T ((s.put (some d) v).tmps.getD d undef) x'
        rw [put_getD _ _ _ _ hd, if_pos rfl]
        exact ht
      · intro j hj _ hF d' T' h'
        have h2 := hstab i j d' T' h' (fun e => hj e.symm) _ _ _ hs hr (hF d' T' h')
        cases d' with
        | none => exact h2
        | some d' =>
          have hne : d' ≠ d := fun e => by
            subst e
            exact hj (nodup_fst tab hnd j i d' T' T h' hdv)
          show T' ((s.put (some d) v).tmps.getD d' undef) x'
          rw [put_getD _ _ _ _ hd, if_neg hne]
          exact h2
  · rintro s x ⟨hs, hsz, hdf, hout⟩ hF
    have hmemt : ∀ p ∈ (tab.filterMap Prod.fst).map (fun d => (d, s.tmps.getD d undef)), p.1 < a.tmps.size := fun p hp => by
      obtain ⟨d, hd, rfl⟩ := List.mem_map.1 hp
      exact hlt d hd
    have hfst : ((tab.filterMap Prod.fst).map (fun d => (d, s.tmps.getD d undef))).map Prod.fst = tab.filterMap Prod.fst := by simp [List.map_map, Function.comp_def]
    have e : s = fill a (zipo tab (tab.map fun p => valo s p.1)) := by
      rw [zipo_map]
      refine act_ext (by rw [fill_size, hsz]) (by rw [fill_defers, hdf]) fun k _ => ?_
      by_cases hk : k ∈ tab.filterMap Prod.fst
      · rw [fill_in _ a k (s.tmps.getD k undef) hmemt (by rw [hfst]; exact hnd) (List.mem_map.2 ⟨k, hk, rfl⟩)]
      · rw [hout k hk, fill_out _ a k hmemt fun p hp e => hk (by obtain ⟨d, hd, rfl⟩ := List.mem_map.1 hp; exact e ▸ hd)]
    have h := hdone (tab.map fun p => valo s p.1) x hs (by simp) fun i d T h => by
      have := hF i (by rw [← hlen]; exact (List.getElem?_eq_some_iff.1 h).1) d T h
      rw [List.getD_eq_getElem?_getD, List.getElem?_map, h]
      exact this
    rwa [← e] at h
end cin
end Go.Proofs.Ytohoajjdoihekaa
