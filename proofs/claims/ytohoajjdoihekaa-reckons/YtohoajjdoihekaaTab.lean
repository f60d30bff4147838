/-
  A law for a statement whose operations come up in whatever order and each yield a known value: by a table of slots and values.
-/
import Derived.Test.YtohoajjdoihekaaReg
import Derived.RegionTactic
set_option linter.unusedVariables false
set_option linter.unusedSimpArgs false
namespace Go.Proofs.Ytohoajjdoihekaa
namespace cin
variable {P : Program} {ops : Array Oper} {Q : Exit → Act → World → Prop}
theorem put_getD (s : Act) (d : Nat) (v : Value) (k : Nat) (hd : d < s.tmps.size) : (s.put (some d) v).tmps.getD k undef = if k = d then v else s.tmps.getD k undef := by
  simp only [Act.put, Array.getD_eq_getD_getElem?, Array.getElem?_setIfInBounds]
  by_cases e : d = k
  · subst e; simp [hd]
  · rw [if_neg e, if_neg (fun h => e h.symm)]
theorem put_size (s : Act) (d : Nat) (v : Value) : (s.put (some d) v).tmps.size = s.tmps.size := by simp [Act.put]
theorem put_defers (s : Act) (d : Nat) (v : Value) : (s.put (some d) v).defers = s.defers := rfl
/-- the frame with the table's values laid in -/
def fill (a : Act) (tab : List (Nat × Value)) : Act := tab.foldl (fun s p => s.put (some p.1) p.2) a
theorem fill_size : ∀ (tab : List (Nat × Value)) (a : Act), (fill a tab).tmps.size = a.tmps.size
  | [], _ => rfl
  | p :: tab, a => by
    show (fill (a.put (some p.1) p.2) tab).tmps.size = _
    rw [fill_size tab, put_size]
theorem fill_defers : ∀ (tab : List (Nat × Value)) (a : Act), (fill a tab).defers = a.defers
  | [], _ => rfl
  | p :: tab, a => by
    show (fill (a.put (some p.1) p.2) tab).defers = _
    rw [fill_defers tab, put_defers]
theorem fill_out : ∀ (tab : List (Nat × Value)) (a : Act) (k : Nat), (∀ p ∈ tab, p.1 < a.tmps.size) → (∀ p ∈ tab, p.1 ≠ k) → (fill a tab).tmps.getD k undef = a.tmps.getD k undef
  | [], _, _, _, _ => rfl
  | p :: tab, a, k, hl, hk => by
    show (fill (a.put (some p.1) p.2) tab).tmps.getD k undef = _
    rw [fill_out tab _ k (fun q hq => by rw [put_size]; exact hl q (List.mem_cons_of_mem _ hq)) (fun q hq => hk q (List.mem_cons_of_mem _ hq)), put_getD _ _ _ _ (hl p List.mem_cons_self), if_neg (fun h => hk p List.mem_cons_self h.symm)]
theorem fill_in : ∀ (tab : List (Nat × Value)) (a : Act) (d : Nat) (v : Value), (∀ p ∈ tab, p.1 < a.tmps.size) → (tab.map Prod.fst).Nodup → (d, v) ∈ tab → (fill a tab).tmps.getD d undef = v
  | [], _, _, _, _, _, h => by cases h
  | p :: tab, a, d, v, hl, hn, h => by
    rw [List.map_cons, List.nodup_cons] at hn
    show (fill (a.put (some p.1) p.2) tab).tmps.getD d undef = _
    rcases List.mem_cons.1 h with rfl | h
    · rw [fill_out tab _ d (fun q hq => by rw [put_size]; exact hl q (List.mem_cons_of_mem _ hq)) (fun q hq e => hn.1 (List.mem_map.2 ⟨q, hq, e⟩)), put_getD _ _ _ _ (hl _ List.mem_cons_self), if_pos rfl]
    · exact fill_in tab _ d v (fun q hq => by rw [put_size]; exact hl q (List.mem_cons_of_mem _ hq)) hn.2 h
theorem act_ext {s t : Act} (h1 : s.tmps.size = t.tmps.size) (h2 : s.defers = t.defers) (h3 : ∀ k, k < t.tmps.size → s.tmps.getD k undef = t.tmps.getD k undef) : s = t := by
  obtain ⟨st, sd⟩ := s
  obtain ⟨tt, td⟩ := t
  simp only at h1 h2 h3
  subst h2
  congr 1
  apply Array.ext h1
  intro k hk1 hk2
  have := h3 k hk2
  simpa [Array.getD_eq_getD_getElem?, hk1, hk2] using this
/-- THE LAW. 'S': what holds of the world throughout. 'tab': of each operation the slot that it writes, and the value. -/
theorem wp_region_table {id : Nat} {a : Act} {w : World} (hm : P.follows .mixedOrders = true) (S : World → Prop) (tab : List (Nat × Value)) (hdown : downB ops = true)
    (hlen : tab.length = ops.size) (hnd : decide (tab.map Prod.fst).Nodup = true) (hlt0 : ((tab.map Prod.fst).all fun d => decide (d < a.tmps.size)) = true) (hS : S w.drew)
    (base : List (Nat × Value)) (hbase : ∀ p ∈ base, a.tmps.getD p.1 undef = p.2) (hapart : (base.all fun p => !(tab.map Prod.fst).contains p.1) = true)
    (base2 : List (Nat × Value)) (hbase2 : ∀ p ∈ base2, a.tmps.getD p.1 undef = p.2 ∧ p ∈ tab)
    (hstep : ∀ (i : Nat) (o : Oper) (d : Nat) (v : Value), ops[i]? = some o → tab[i]? = some (d, v) → ∀ s x, S x → (∀ p ∈ base, s.tmps.getD p.1 undef = p.2) → (∀ p ∈ base2, s.tmps.getD p.1 undef = p.2) →
      (∀ e ∈ o.after, Region.binds .any e = true → ∀ d' v', tab[e.on]? = some (d', v') → s.tmps.getD d' undef = v') →
      (Region.wanted o (yielded ops s.tmps) = true ∧ ∀ K : Act → World → Prop, (∀ x', S x' → K (s.put (some d) v) x') → Oper.wp P o s x K Q) ∨
      (Region.wanted o (yielded ops s.tmps) = false ∧ o.dst = some d ∧ v = undef))
    (hdone : ∀ x, S x → Q .normal (fill a tab) x) : (Code.region id ops true).wp P Q a w := by
  have hnd := of_decide_eq_true hnd
  have hlt : ∀ p ∈ tab, p.1 < a.tmps.size := fun p hp => of_decide_eq_true (List.all_eq_true.1 hlt0 p.1 (List.mem_map.2 ⟨p, hp, rfl⟩))
  have hap : ∀ p ∈ base, p.1 ∉ tab.map Prod.fst := fun p hp hm => by
    have := List.all_eq_true.1 hapart p hp
    simp only [Bool.not_eq_true', List.contains_eq_mem, decide_eq_false_iff_not] at this
    exact this hm
  refine wp_region_inv hm (fun s x => S x ∧ s.tmps.size = a.tmps.size ∧ s.defers = a.defers ∧ (∀ k, k ∉ tab.map Prod.fst → s.tmps.getD k undef = a.tmps.getD k undef) ∧ ∀ p ∈ base2, s.tmps.getD p.1 undef = p.2)
    (fun i s _ => ∀ d v, tab[i]? = some (d, v) → s.tmps.getD d undef = v) (hall_of hdown) ⟨hS, rfl, rfl, fun _ _ => rfl, fun p hp => (hbase2 p hp).1⟩ ?_ ?_
  · rintro i o ho s x ⟨hs, hsz, hdf, hout, hb2⟩ hdep
    have hi : i < tab.length := by rw [hlen]; exact (Array.getElem?_eq_some_iff.1 ho).1
    obtain ⟨⟨d, v⟩, hdv⟩ : ∃ p, tab[i]? = some p := ⟨_, List.getElem?_eq_getElem hi⟩
    have hmem : (d, v) ∈ tab := List.mem_of_getElem? hdv
    have hd : d < s.tmps.size := by rw [hsz]; exact hlt _ hmem
    refine wpOp_step ho fun K hK => ?_
    have key : ∀ x', S x' → K (s.put (some d) v) x' := ?key
    case key =>
      intro x' hs'
      refine hK _ _ ⟨⟨hs', by rw [put_size, hsz], by rw [put_defers, hdf], ?_, ?_⟩, ?_, ?_⟩
      · intro k hk
        rw [put_getD _ _ _ _ hd, if_neg (fun (h : k = d) => hk (List.mem_map.2 ⟨_, hmem, h.symm⟩)), hout k hk]
      · intro p hp
        rw [put_getD _ _ _ _ hd]
        split
        · rename_i e
          obtain ⟨j, hj, hjp⟩ := List.getElem_of_mem (hbase2 p hp).2
          have e1 : (tab.map Prod.fst)[i]? = some d := by rw [List.getElem?_map, hdv]; rfl
          have e2 : (tab.map Prod.fst)[j]? = some d := by rw [List.getElem?_map, List.getElem?_eq_getElem hj, hjp, ← e]; rfl
          have hij := (List.getElem?_inj (by simpa using hi) hnd).1 (e1.trans e2.symm)
          subst hij
          rw [List.getElem?_eq_getElem hi, hjp] at hdv
          have e3 := Option.some.inj hdv
          rw [e3]
        · exact hb2 p hp
      · intro d' v' h'
        rw [hdv] at h'
        obtain ⟨rfl, rfl⟩ := Prod.mk.inj (Option.some.inj h')
        rw [put_getD _ _ _ _ hd, if_pos rfl]
      · intro j hj _ hF d' v' h'
        rw [put_getD _ _ _ _ hd, if_neg, hF d' v' h']
        rintro rfl
        have e1 : (tab.map Prod.fst)[i]? = some d' := by rw [List.getElem?_map, hdv]; rfl
        have e2 : (tab.map Prod.fst)[j]? = some d' := by rw [List.getElem?_map, h']; rfl
        have hij := (List.getElem?_inj (by simpa using hi) hnd).1 (e1.trans e2.symm)
        exact hj hij.symm
    rcases hstep i o d v ho hdv s x hs (fun p hp => (hout p.1 (hap p hp)).trans (hbase p hp)) hb2 hdep with ⟨hw, hstep'⟩ | ⟨hw, hod, rfl⟩
    · rw [if_pos hw]
      exact hstep' K key
    · rw [if_neg (by rw [hw]; exact Bool.false_ne_true), hod]
      exact key x hs
  · rintro s x ⟨hs, hsz, hdf, hout, -⟩ hF
    have e : s = fill a tab := by
      refine act_ext (by rw [fill_size, hsz]) (by rw [fill_defers, hdf]) fun k _ => ?_
      by_cases hk : k ∈ tab.map Prod.fst
      · obtain ⟨⟨d, v⟩, hmem, rfl⟩ := List.mem_map.1 hk
        obtain ⟨i, hi, hiv⟩ := List.getElem_of_mem hmem
        rw [fill_in tab a d v hlt hnd hmem]
        exact hF i (by rw [← hlen]; exact hi) d v (by rw [List.getElem?_eq_getElem hi, hiv])
      · rw [hout k hk, fill_out tab a k hlt fun p hp e => hk (List.mem_map.2 ⟨p, hp, e⟩)]
    rw [e]
    exact hdone x hs
end cin
end Go.Proofs.Ytohoajjdoihekaa
