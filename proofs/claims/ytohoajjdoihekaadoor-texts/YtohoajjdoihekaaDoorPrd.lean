/-
  A law for a statement whose operations come up in whatever order and each yield a value of which something is known (a slice of its own, say, wherever that was laid).
-/
import Derived.WalkKit
import Derived.OrdersHeld
import Derived.RegionTactic
set_option linter.unusedVariables false
set_option linter.unusedSimpArgs false
/-
  A law for a statement whose operations come up in whatever order: by an invariant, and a fact for each operation that has come up: no order is gone through.
-/
namespace Go.Proofs.YtohoajjdoihekaaDoor
namespace cin
theorem countP_lt {p p' : Nat → Bool} (h : ∀ j, p' j = true → p j = true) : ∀ (l : List Nat) (i : Nat), i ∈ l → p i = true → p' i = false → l.countP p' < l.countP p
  | [], i, hi, _, _ => by cases hi
  | x :: l, i, hi, h1, h2 => by
    have mono : l.countP p' ≤ l.countP p := List.countP_mono_left fun j _ hj => h j hj
    rcases List.mem_cons.1 hi with rfl | hi
    · rw [List.countP_cons, List.countP_cons, h1, h2]; simp; omega
    · have ih := countP_lt h l i hi h1 h2
      rw [List.countP_cons, List.countP_cons]
      by_cases hx : p' x = true
      · rw [if_pos hx, if_pos (h x hx)]; omega
      · rw [if_neg hx]; split <;> omega
/-- does operation j wait for operation i? -/
def depB (ops : Array Oper) (j i : Nat) : Bool := ((ops[j]?).map fun o => o.after.any fun e => Region.binds .any e && e.on == i).getD false
variable {P : Program} {ops : Array Oper} {Q : Exit → Act → World → Prop}
/-- 'G': what holds throughout. 'F i': what holds once operation i has come up. -/
theorem wpAny_inv (G : Act → World → Prop) (F : Nat → Act → World → Prop)
    (hstep : ∀ (i : Nat) (o : Oper), ops[i]? = some o → ∀ a w, G a w → (∀ e ∈ o.after, Region.binds .any e = true → F e.on a w) →
      wpOp P ops Q i (fun a' w' => G a' w' ∧ F i a' w' ∧ ∀ j, j ≠ i → depB ops j i = false → F j a w → F j a' w') a w)
    (hdone : ∀ a w, G a w → (∀ i, i < ops.size → F i a w) → Q .normal a w) :
    ∀ (fuel : Nat) (listed : Array Bool) (a : Act) (w : World), (List.range ops.size).countP (fun i => !listed.getD i true) ≤ fuel → listed.size = ops.size →
      G a w → (∀ i, listed.getD i false = true → F i a w) → (Region.ready .any ops listed = [] → ∀ i, i < ops.size → listed.getD i false = true) →
      (∀ l : Array Bool, l.size = ops.size → Region.ready .any ops l = [] → ∀ i, i < ops.size → l.getD i false = true) →
      (∀ j i, listed.getD j false = true → depB ops j i = true → listed.getD i false = true) → wpAny P .any ops Q fuel listed a w := by
  intro fuel
  induction fuel with
  | zero =>
    intro listed a w hc hs hG hF hr hall hcl
    have h0 : Region.ready .any ops listed = [] := by
      apply List.eq_nil_iff_forall_not_mem.2
      intro i hi
      simp only [Region.ready, List.mem_filter, Bool.and_eq_true] at hi
      have hz : (List.range ops.size).countP (fun i => !listed.getD i true) = 0 := by omega
      rw [List.countP_eq_zero] at hz
      exact hz i hi.1 hi.2.1
    exact ⟨h0, hdone a w hG fun i hi => hF i (hr h0 i hi)⟩
  | succ fuel ih =>
    intro listed a w hc hs hG hF hr hall hcl
    refine ⟨fun h0 => hdone a w hG fun i hi => hF i (hr h0 i hi), fun i hi => ?_⟩
    have hi' := hi
    simp only [Region.ready, List.mem_filter, Bool.and_eq_true, List.mem_range] at hi
    obtain ⟨hlt, hl, haft⟩ := hi
    have ho : ops[i]? = some ops[i] := getElem?_pos ops i hlt
    rw [ho] at haft
    simp only [Option.map_some, Option.getD_some, Array.all_eq_true', Bool.or_eq_true, Bool.not_eq_true'] at haft
    have hli : i < listed.size := by omega
    refine wpOp_mono ?_ (hstep i _ ho a w hG fun e he hb => ?_)
    · rintro a' w' ⟨hG', hFi, hkeep⟩
      have hnf : listed.getD i false = false := by
        simp only [Array.getD_eq_getD_getElem?, getElem?_pos listed i hli, Option.getD_some] at hl ⊢
        simpa using hl
      refine ih _ a' w' ?_ (by simp [hs]) hG' ?_ (hall _ (by simp [hs])) hall ?_
      · have := countP_lt (p := fun i => !listed.getD i true) (p' := fun j => !(listed.setIfInBounds i true).getD j true) ?_ (List.range ops.size) i (by simpa using hlt) (by simpa using hl) ?_
        · omega
        · intro j hj
          simp only [Array.getD_eq_getD_getElem?, Array.getElem?_setIfInBounds] at hj ⊢
          by_cases e : i = j
          · subst e; simp [hli] at hj
          · simpa [e] using hj
        · simp [Array.getD_eq_getD_getElem?, hli]
      · intro j hj
        by_cases e : i = j
        · subst e; exact hFi
        · have hjl : listed.getD j false = true := by simpa [Array.getD_eq_getD_getElem?, Array.getElem?_setIfInBounds, e] using hj
          refine hkeep j (fun h => e h.symm) ?_ (hF j hjl)
          cases hd : depB ops j i
          · rfl
          · rw [hcl j i hjl hd] at hnf; cases hnf
      · intro j k hj hd
        have up : listed.getD k false = true → (listed.setIfInBounds i true).getD k false = true := by
          intro h
          by_cases e : i = k
          · subst e; rw [h] at hnf; cases hnf
          · simpa [Array.getD_eq_getD_getElem?, Array.getElem?_setIfInBounds, e] using h
        by_cases e : i = j
        · subst e
          refine up ?_
          unfold depB at hd
          rw [ho] at hd
          simp only [Option.map_some, Option.getD_some, Array.any_eq_true', Bool.and_eq_true, beq_iff_eq] at hd
          obtain ⟨x, hx, hb, rfl⟩ := hd
          exact (haft x hx).resolve_left (by rw [hb]; simp)
        · refine up (hcl j k ?_ hd)
          simpa [Array.getD_eq_getD_getElem?, Array.getElem?_setIfInBounds, e] using hj
    · exact hF _ ((haft e he).resolve_left (by rw [hb]; simp))
/-- does each operation wait for earlier ones alone? -/
def downB (ops : Array Oper) : Bool := (List.range ops.size).all fun i => ((ops[i]?).map fun o => o.after.all fun e => !Region.binds .any e || decide (e.on < i)).getD true
theorem hall_of (h : downB ops = true) : ∀ l : Array Bool, l.size = ops.size → Region.ready .any ops l = [] → ∀ i, i < ops.size → l.getD i false = true := by
  intro l hl hr i
  induction i using Nat.strongRecOn with
  | _ i ih =>
    intro hi
    unfold downB at h
    have hd := List.all_eq_true.1 h i (by simpa using hi)
    have ho : ops[i]? = some ops[i] := getElem?_pos ops i hi
    rw [ho] at hd
    simp only [Option.map_some, Option.getD_some, Array.all_eq_true', Bool.or_eq_true, Bool.not_eq_true', decide_eq_true_eq] at hd
    cases hc : l.getD i false
    · exfalso
      have hm : i ∈ Region.ready .any ops l := by
        simp only [Region.ready, List.mem_filter, Bool.and_eq_true, List.mem_range]
        refine ⟨hi, ?_, ?_⟩
        · have hli : i < l.size := by omega
          simp only [Array.getD_eq_getD_getElem?, getElem?_pos l i hli, Option.getD_some] at hc ⊢
          simp [hc]
        · rw [ho]
          simp only [Option.map_some, Option.getD_some, Array.all_eq_true', Bool.or_eq_true, Bool.not_eq_true']
          intro e he
          rcases hd e he with hb | hlt
          · exact Or.inl hb
          · exact Or.inr (ih e.on hlt (by omega))
      rw [hr] at hm
      cases hm
    · rfl
/-- THE LAW. -/
theorem wp_region_inv {id : Nat} {a : Act} {w : World} (hm : P.follows .mixedOrders = true) (G : Act → World → Prop) (F : Nat → Act → World → Prop)
    (hall : ∀ l : Array Bool, l.size = ops.size → Region.ready .any ops l = [] → ∀ i, i < ops.size → l.getD i false = true) (h0 : G a w.drew)
    (hstep : ∀ (i : Nat) (o : Oper), ops[i]? = some o → ∀ a w, G a w → (∀ e ∈ o.after, Region.binds .any e = true → F e.on a w) →
      wpOp P ops Q i (fun a' w' => G a' w' ∧ F i a' w' ∧ ∀ j, j ≠ i → depB ops j i = false → F j a w → F j a' w') a w)
    (hdone : ∀ a w, G a w → (∀ i, i < ops.size → F i a w) → Q .normal a w) : (Code.region id ops true).wp P Q a w := by
  refine wp_region_any hm (wpAny_inv G F hstep hdone _ _ a _ ?_ (by simp) h0 ?_ (hall _ (by simp)) hall ?_)
  · refine Nat.le_trans List.countP_le_length (by simp)
  · intro i hi
    simp [Array.getD_eq_getD_getElem?, Array.getElem?_replicate] at hi
    split at hi <;> simp at hi
  · intro i _ hi
    simp [Array.getD_eq_getD_getElem?, Array.getElem?_replicate] at hi
    split at hi <;> simp at hi
end cin
end Go.Proofs.YtohoajjdoihekaaDoor

/-
  A law for a statement whose operations come up in whatever order and each yield a known value: by a table of slots and values.
-/
namespace Go.Proofs.YtohoajjdoihekaaDoor
namespace cin
variable {P : Program} {ops : Array Oper} {Q : Exit → Act → World → Prop}
theorem put_getD (s : Act) (d : Nat) (v : Value) (k : Nat) (hd : d < s.tmps.size) : (s.put (some d) v).tmps.getD k undef = if k = d then v else s.tmps.getD k undef := by
  simp only [Act.put, Array.getD_eq_getD_getElem?, Array.getElem?_setIfInBounds]
  by_cases e : d = k
  · subst e; simp [hd]
  · rw [if_neg e, if_neg (fun h => e h.symm)]
theorem put_size (s : Act) (d : Nat) (v : Value) : (s.put (some d) v).tmps.size = s.tmps.size := by simp [Act.put]
theorem put_defers (s : Act) (d : Nat) (v : Value) : (s.put (some d) v).defers = s.defers := rfl
/-- the frame with the table's values laid in -/
def fill (a : Act) (tab : List (Nat × Value)) : Act := tab.foldl (fun s p => s.put (some p.1) p.2) a
theorem fill_size : ∀ (tab : List (Nat × Value)) (a : Act), (fill a tab).tmps.size = a.tmps.size
  | [], _ => rfl
  | p :: tab, a => by
    show (fill (a.put (some p.1) p.2) tab).tmps.size = _
    rw [fill_size tab, put_size]
theorem fill_defers : ∀ (tab : List (Nat × Value)) (a : Act), (fill a tab).defers = a.defers
  | [], _ => rfl
  | p :: tab, a => by
    show (fill (a.put (some p.1) p.2) tab).defers = _
    rw [fill_defers tab, put_defers]
theorem fill_out : ∀ (tab : List (Nat × Value)) (a : Act) (k : Nat), (∀ p ∈ tab, p.1 < a.tmps.size) → (∀ p ∈ tab, p.1 ≠ k) → (fill a tab).tmps.getD k undef = a.tmps.getD k undef
  | [], _, _, _, _ => rfl
  | p :: tab, a, k, hl, hk => by
    show (fill (a.put (some p.1) p.2) tab).tmps.getD k undef = _
    rw [fill_out tab _ k (fun q hq => by rw [put_size]; exact hl q (List.mem_cons_of_mem _ hq)) (fun q hq => hk q (List.mem_cons_of_mem _ hq)), put_getD _ _ _ _ (hl p List.mem_cons_self), if_neg (fun h => hk p List.mem_cons_self h.symm)]
theorem fill_in : ∀ (tab : List (Nat × Value)) (a : Act) (d : Nat) (v : Value), (∀ p ∈ tab, p.1 < a.tmps.size) → (tab.map Prod.fst).Nodup → (d, v) ∈ tab → (fill a tab).tmps.getD d undef = v
  | [], _, _, _, _, _, h => by cases h
  | p :: tab, a, d, v, hl, hn, h => by
    rw [List.map_cons, List.nodup_cons] at hn
    show (fill (a.put (some p.1) p.2) tab).tmps.getD d undef = _
    rcases List.mem_cons.1 h with rfl | h
    · rw [fill_out tab _ d (fun q hq => by rw [put_size]; exact hl q (List.mem_cons_of_mem _ hq)) (fun q hq e => hn.1 (List.mem_map.2 ⟨q, hq, e⟩)), put_getD _ _ _ _ (hl _ List.mem_cons_self), if_pos rfl]
    · exact fill_in tab _ d v (fun q hq => by rw [put_size]; exact hl q (List.mem_cons_of_mem _ hq)) hn.2 h
theorem act_ext {s t : Act} (h1 : s.tmps.size = t.tmps.size) (h2 : s.defers = t.defers) (h3 : ∀ k, k < t.tmps.size → s.tmps.getD k undef = t.tmps.getD k undef) : s = t := by
  obtain ⟨st, sd⟩ := s
  obtain ⟨tt, td⟩ := t
  simp only at h1 h2 h3
  subst h2
  congr 1
  apply Array.ext h1
  intro k hk1 hk2
  have := h3 k hk2
  simpa [Array.getD_eq_getD_getElem?, hk1, hk2] using this
/-- THE LAW. 'S': what holds of the world throughout. 'tab': of each operation the slot that it writes, and the value. -/
theorem wp_region_table {id : Nat} {a : Act} {w : World} (hm : P.follows .mixedOrders = true) (S : World → Prop) (tab : List (Nat × Value)) (hdown : downB ops = true)
    (hlen : tab.length = ops.size) (hnd : decide (tab.map Prod.fst).Nodup = true) (hlt0 : ((tab.map Prod.fst).all fun d => decide (d < a.tmps.size)) = true) (hS : S w.drew)
    (base : List (Nat × Value)) (hbase : ∀ p ∈ base, a.tmps.getD p.1 undef = p.2) (hapart : (base.all fun p => !(tab.map Prod.fst).contains p.1) = true)
    (base2 : List (Nat × Value)) (hbase2 : ∀ p ∈ base2, a.tmps.getD p.1 undef = p.2 ∧ p ∈ tab)
    (hstep : ∀ (i : Nat) (o : Oper) (d : Nat) (v : Value), ops[i]? = some o → tab[i]? = some (d, v) → ∀ s x, S x → (∀ p ∈ base, s.tmps.getD p.1 undef = p.2) → (∀ p ∈ base2, s.tmps.getD p.1 undef = p.2) →
      (∀ e ∈ o.after, Region.binds .any e = true → ∀ d' v', tab[e.on]? = some (d', v') → s.tmps.getD d' undef = v') →
      (Region.wanted o (yielded ops s.tmps) = true ∧ ∀ K : Act → World → Prop, (∀ x', S x' → K (s.put (some d) v) x') → Oper.wp P o s x K Q) ∨
      (Region.wanted o (yielded ops s.tmps) = false ∧ o.dst = some d ∧ v = undef))
    (hdone : ∀ x, S x → Q .normal (fill a tab) x) : (Code.region id ops true).wp P Q a w := by
  have hnd := of_decide_eq_true hnd
  have hlt : ∀ p ∈ tab, p.1 < a.tmps.size := fun p hp => of_decide_eq_true (List.all_eq_true.1 hlt0 p.1 (List.mem_map.2 ⟨p, hp, rfl⟩))
  have hap : ∀ p ∈ base, p.1 ∉ tab.map Prod.fst := fun p hp hm => by
    have := List.all_eq_true.1 hapart p hp
    simp only [Bool.not_eq_true', List.contains_eq_mem, decide_eq_false_iff_not] at this
    exact this hm
  refine wp_region_inv hm (fun s x => S x ∧ s.tmps.size = a.tmps.size ∧ s.defers = a.defers ∧ (∀ k, k ∉ tab.map Prod.fst → s.tmps.getD k undef = a.tmps.getD k undef) ∧ ∀ p ∈ base2, s.tmps.getD p.1 undef = p.2)
    (fun i s _ => ∀ d v, tab[i]? = some (d, v) → s.tmps.getD d undef = v) (hall_of hdown) ⟨hS, rfl, rfl, fun _ _ => rfl, fun p hp => (hbase2 p hp).1⟩ ?_ ?_
  · rintro i o ho s x ⟨hs, hsz, hdf, hout, hb2⟩ hdep
    have hi : i < tab.length := by rw [hlen]; exact (Array.getElem?_eq_some_iff.1 ho).1
    obtain ⟨⟨d, v⟩, hdv⟩ : ∃ p, tab[i]? = some p := ⟨_, List.getElem?_eq_getElem hi⟩
    have hmem : (d, v) ∈ tab := List.mem_of_getElem? hdv
    have hd : d < s.tmps.size := by rw [hsz]; exact hlt _ hmem
    refine wpOp_step ho fun K hK => ?_
    have key : ∀ x', S x' → K (s.put (some d) v) x' := ?key
    case key =>
      intro x' hs'
      refine hK _ _ ⟨⟨hs', by rw [put_size, hsz], by rw [put_defers, hdf], ?_, ?_⟩, ?_, ?_⟩
      · intro k hk
        rw [put_getD _ _ _ _ hd, if_neg (fun (h : k = d) => hk (List.mem_map.2 ⟨_, hmem, h.symm⟩)), hout k hk]
      · intro p hp
        rw [put_getD _ _ _ _ hd]
        split
        · rename_i e
          obtain ⟨j, hj, hjp⟩ := List.getElem_of_mem (hbase2 p hp).2
          have e1 : (tab.map Prod.fst)[i]? = some d := by rw [List.getElem?_map, hdv]; rfl
          have e2 : (tab.map Prod.fst)[j]? = some d := by rw [List.getElem?_map, List.getElem?_eq_getElem hj, hjp, ← e]; rfl
          have hij := (List.getElem?_inj (by simpa using hi) hnd).1 (e1.trans e2.symm)
          subst hij
          rw [List.getElem?_eq_getElem hi, hjp] at hdv
          have e3 := Option.some.inj hdv
          rw [e3]
        · exact hb2 p hp
      · intro d' v' h'
        rw [hdv] at h'
        obtain ⟨rfl, rfl⟩ := Prod.mk.inj (Option.some.inj h')
        rw [put_getD _ _ _ _ hd, if_pos rfl]
      · intro j hj _ hF d' v' h'
        rw [put_getD _ _ _ _ hd, if_neg, hF d' v' h']
        rintro rfl
        have e1 : (tab.map Prod.fst)[i]? = some d' := by rw [List.getElem?_map, hdv]; rfl
        have e2 : (tab.map Prod.fst)[j]? = some d' := by rw [List.getElem?_map, h']; rfl
        have hij := (List.getElem?_inj (by simpa using hi) hnd).1 (e1.trans e2.symm)
        exact hj hij.symm
    rcases hstep i o d v ho hdv s x hs (fun p hp => (hout p.1 (hap p hp)).trans (hbase p hp)) hb2 hdep with ⟨hw, hstep'⟩ | ⟨hw, hod, rfl⟩
    · rw [if_pos hw]
      exact hstep' K key
    · rw [if_neg (by rw [hw]; exact Bool.false_ne_true), hod]
      exact key x hs
  · rintro s x ⟨hs, hsz, hdf, hout, -⟩ hF
    have e : s = fill a tab := by
      refine act_ext (by rw [fill_size, hsz]) (by rw [fill_defers, hdf]) fun k _ => ?_
      by_cases hk : k ∈ tab.map Prod.fst
      · obtain ⟨⟨d, v⟩, hmem, rfl⟩ := List.mem_map.1 hk
        obtain ⟨i, hi, hiv⟩ := List.getElem_of_mem hmem
        rw [fill_in tab a d v hlt hnd hmem]
        exact hF i (by rw [← hlen]; exact hi) d v (by rw [List.getElem?_eq_getElem hi, hiv])
      · rw [hout k hk, fill_out tab a k hlt fun p hp e => hk (List.mem_map.2 ⟨p, hp, e⟩)]
    rw [e]
    exact hdone x hs
end cin
end Go.Proofs.YtohoajjdoihekaaDoor

namespace Go.Proofs.YtohoajjdoihekaaDoor
namespace cin
variable {P : Program} {ops : Array Oper} {Q : Exit → Act → World → Prop}
def valo (s : Act) : Option Nat → Value
  | some d => s.tmps.getD d undef
  | none => undef
def zipo : List (Option Nat × (Value → World → Prop)) → List Value → List (Nat × Value)
  | (some d, _) :: l, v :: vs => (d, v) :: zipo l vs
  | (none, _) :: l, _ :: vs => zipo l vs
  | _, _ => []
theorem zipo_map (s : Act) : ∀ tab : List (Option Nat × (Value → World → Prop)), zipo tab (tab.map fun p => valo s p.1) = (tab.filterMap Prod.fst).map fun d => (d, s.tmps.getD d undef)
  | [] => rfl
  | (some d, T) :: l => by
    show (d, _) :: zipo l _ = _
    rw [zipo_map s l]; rfl
  | (none, T) :: l => by
    show zipo l _ = _
    rw [zipo_map s l]; rfl
theorem putn (s : Act) (v : Value) : s.put none v = s := rfl
theorem nodup_fst : ∀ (tab : List (Option Nat × (Value → World → Prop))), (tab.filterMap Prod.fst).Nodup → ∀ (i j d : Nat) (T T' : Value → World → Prop), tab[i]? = some (some d, T) → tab[j]? = some (some d, T') → i = j
  | [], _, i, _, _, _, _, h, _ => by simp at h
  | p :: l, hn, 0, 0, _, _, _, _, _ => rfl
  | p :: l, hn, 0, j + 1, d, T, T', h, h' => by
    obtain rfl : p = (some d, T) := by simpa using h
    exfalso
    have hm : d ∈ l.filterMap Prod.fst := List.mem_filterMap.2 ⟨(some d, T'), List.mem_of_getElem? (by simpa using h'), rfl⟩
    have : (d :: l.filterMap Prod.fst).Nodup := hn
    exact (List.nodup_cons.1 this).1 hm
  | p :: l, hn, i + 1, 0, d, T, T', h, h' => by
    obtain rfl : p = (some d, T') := by simpa using h'
    exfalso
    have hm : d ∈ l.filterMap Prod.fst := List.mem_filterMap.2 ⟨(some d, T), List.mem_of_getElem? (by simpa using h), rfl⟩
    have : (d :: l.filterMap Prod.fst).Nodup := hn
    exact (List.nodup_cons.1 this).1 hm
  | p :: l, hn, i + 1, j + 1, d, T, T', h, h' => by
    have hn' : (l.filterMap Prod.fst).Nodup := by
      obtain ⟨o, T0⟩ := p
      cases o with
      | none => exact hn
      | some d0 => exact (List.nodup_cons.1 (show (d0 :: l.filterMap Prod.fst).Nodup from hn)).2
    rw [nodup_fst l hn' i j d T T' (by simpa using h) (by simpa using h')]
/-- THE LAW. 'S': what holds of the world throughout. 'tab': of each operation the slot that it writes (if any) and what is known of its value. 'R i': what operation i may do to the world. -/
theorem wp_region_pred {id : Nat} {a : Act} {w : World} (hm : P.follows .mixedOrders = true) (S : World → Prop) (R : Nat → World → World → Prop) (tab : List (Option Nat × (Value → World → Prop))) (hdown : downB ops = true)
    (hlen : tab.length = ops.size) (hnd : decide (tab.filterMap Prod.fst).Nodup = true) (hlt0 : ((tab.filterMap Prod.fst).all fun d => decide (d < a.tmps.size)) = true) (hS : S w.drew)
    (base : List (Nat × Value)) (hbase : ∀ p ∈ base, a.tmps.getD p.1 undef = p.2) (hapart : (base.all fun p => !(tab.filterMap Prod.fst).contains p.1) = true)
    (hstab : ∀ (i j : Nat) (d : Option Nat) (T : Value → World → Prop), tab[j]? = some (d, T) → i ≠ j → ∀ v x x', S x → R i x x' → T v x → T v x')
    (hstep : ∀ (i : Nat) (o : Oper) (d : Option Nat) (T : Value → World → Prop), ops[i]? = some o → tab[i]? = some (d, T) → ∀ s x, S x → (∀ p ∈ base, s.tmps.getD p.1 undef = p.2) →
      (∀ e ∈ o.after, Region.binds .any e = true → ∀ (d' : Option Nat) (T' : Value → World → Prop), tab[e.on]? = some (d', T') → T' (valo s d') x) →
      (Region.wanted o (yielded ops s.tmps) = true ∧ ∀ K : Act → World → Prop, (∀ v x', S x' → R i x x' → (d = none → v = undef) → T v x' → K (s.put d v) x') → Oper.wp P o s x K Q))
    (hdone : ∀ (vs : List Value) x, S x → vs.length = tab.length → (∀ (i : Nat) (d : Option Nat) (T : Value → World → Prop), tab[i]? = some (d, T) → T (vs.getD i undef) x) → Q .normal (fill a (zipo tab vs)) x) : (Code.region id ops true).wp P Q a w := by
  have hnd := of_decide_eq_true hnd
  have hlt : ∀ d, d ∈ tab.filterMap Prod.fst → d < a.tmps.size := fun d hd => of_decide_eq_true (List.all_eq_true.1 hlt0 d hd)
  have hap : ∀ p ∈ base, p.1 ∉ tab.filterMap Prod.fst := fun p hp hm => by
    have := List.all_eq_true.1 hapart p hp
    simp only [Bool.not_eq_true', List.contains_eq_mem, decide_eq_false_iff_not] at this
    exact this hm
  refine wp_region_inv hm (fun s x => S x ∧ s.tmps.size = a.tmps.size ∧ s.defers = a.defers ∧ (∀ k, k ∉ tab.filterMap Prod.fst → s.tmps.getD k undef = a.tmps.getD k undef))
    (fun i s x => ∀ (d : Option Nat) (T : Value → World → Prop), tab[i]? = some (d, T) → T (valo s d) x) (hall_of hdown) ⟨hS, rfl, rfl, fun _ _ => rfl⟩ ?_ ?_
  · rintro i o ho s x ⟨hs, hsz, hdf, hout⟩ hdep
    have hi : i < tab.length := by rw [hlen]; exact (Array.getElem?_eq_some_iff.1 ho).1
    obtain ⟨⟨d, T⟩, hdv⟩ : ∃ p, tab[i]? = some p := ⟨_, List.getElem?_eq_getElem hi⟩
    have hmem : (d, T) ∈ tab := List.mem_of_getElem? hdv
    refine wpOp_step ho fun K hK => ?_
    obtain ⟨hw, hstep'⟩ := hstep i o d T ho hdv s x hs (fun p hp => (hout p.1 (hap p hp)).trans (hbase p hp)) hdep
    rw [if_pos hw]
    refine hstep' K fun v x' hs' hr hv ht => ?_
    cases d with
    | none =>
      refine hK _ _ ⟨⟨hs', hsz, hdf, hout⟩, ?_, ?_⟩
      · intro d' T' h'
        rw [hdv] at h'
        obtain ⟨rfl, rfl⟩ := Prod.mk.inj (Option.some.inj h')
        rw [hv rfl] at ht
        exact ht
      · intro j hj _ hF d' T' h'
        exact hstab i j d' T' h' (fun e => hj e.symm) _ _ _ hs hr (hF d' T' h')
    | some d =>
      have hdm : d ∈ tab.filterMap Prod.fst := List.mem_filterMap.2 ⟨_, hmem, rfl⟩
      have hd : d < s.tmps.size := by rw [hsz]; exact hlt _ hdm
      refine hK _ _ ⟨⟨hs', by rw [put_size, hsz], by rw [put_defers, hdf], ?_⟩, ?_, ?_⟩
      · intro k hk
        rw [put_getD _ _ _ _ hd, if_neg (fun (h : k = d) => hk (h ▸ hdm)), hout k hk]
      · intro d' T' h'
        rw [hdv] at h'
        obtain ⟨rfl, rfl⟩ := Prod.mk.inj (Option.some.inj h')
        show T ((s.put (some d) v).tmps.getD d undef) x'
        rw [put_getD _ _ _ _ hd, if_pos rfl]
        exact ht
      · intro j hj _ hF d' T' h'
        have h2 := hstab i j d' T' h' (fun e => hj e.symm) _ _ _ hs hr (hF d' T' h')
        cases d' with
        | none => exact h2
        | some d' =>
          have hne : d' ≠ d := fun e => by
            subst e
            exact hj (nodup_fst tab hnd j i d' T' T h' hdv)
          show T' ((s.put (some d) v).tmps.getD d' undef) x'
          rw [put_getD _ _ _ _ hd, if_neg hne]
          exact h2
  · rintro s x ⟨hs, hsz, hdf, hout⟩ hF
    have hmemt : ∀ p ∈ (tab.filterMap Prod.fst).map (fun d => (d, s.tmps.getD d undef)), p.1 < a.tmps.size := fun p hp => by
      obtain ⟨d, hd, rfl⟩ := List.mem_map.1 hp
      exact hlt d hd
    have hfst : ((tab.filterMap Prod.fst).map (fun d => (d, s.tmps.getD d undef))).map Prod.fst = tab.filterMap Prod.fst := by simp [List.map_map, Function.comp_def]
    have e : s = fill a (zipo tab (tab.map fun p => valo s p.1)) := by
      rw [zipo_map]
      refine act_ext (by rw [fill_size, hsz]) (by rw [fill_defers, hdf]) fun k _ => ?_
      by_cases hk : k ∈ tab.filterMap Prod.fst
      · rw [fill_in _ a k (s.tmps.getD k undef) hmemt (by rw [hfst]; exact hnd) (List.mem_map.2 ⟨k, hk, rfl⟩)]
      · rw [hout k hk, fill_out _ a k hmemt fun p hp e => hk (by obtain ⟨d, hd, rfl⟩ := List.mem_map.1 hp; exact e ▸ hd)]
    have h := hdone (tab.map fun p => valo s p.1) x hs (by simp) fun i d T h => by
      have := hF i (by rw [← hlen]; exact (List.getElem?_eq_some_iff.1 h).1) d T h
      rw [List.getD_eq_getElem?_getD, List.getElem?_map, h]
      exact this
    rwa [← e] at h
end cin
end Go.Proofs.YtohoajjdoihekaaDoor
