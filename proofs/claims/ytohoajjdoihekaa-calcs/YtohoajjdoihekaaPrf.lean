/-
  A law for a statement whose operations come up in whatever order, some of which lay new places and store into them: of each operation is known something of the slots that it names.
-/
import Derived.Test.YtohoajjdoihekaaPrd
set_option linter.unusedVariables false
set_option linter.unusedSimpArgs false
namespace Go.Proofs.Ytohoajjdoihekaa
namespace cin
variable {P : Program} {ops : Array Oper} {Q : Exit → Act → World → Prop}
def look (s : Act) (k : Nat) : Value := s.tmps.getD k undef
def updo (e : Nat → Value) : Option Nat → Value → Nat → Value
  | some d, v, k => if k = d then v else e k
  | none, _, k => e k
structure Ent where
  dst : Option Nat
  see : List Nat
  fact : List Value → World → Prop
def slotsOf (tab : List Ent) : List Nat := tab.filterMap Ent.dst
def zipe : List Ent → List Value → List (Nat × Value)
  | ⟨some d, _, _⟩ :: l, v :: vs => (d, v) :: zipe l vs
  | ⟨none, _, _⟩ :: l, _ :: vs => zipe l vs
  | _, _ => []
theorem zipe_map (s : Act) : ∀ tab : List Ent, zipe tab (tab.map fun p => valo s p.dst) = (slotsOf tab).map fun d => (d, s.tmps.getD d undef)
  | [] => rfl
  | ⟨some d, _, _⟩ :: l => by
    show (d, _) :: zipe l _ = _
    rw [zipe_map s l]; rfl
  | ⟨none, _, _⟩ :: l => by
    show zipe l _ = _
    rw [zipe_map s l]; rfl
def zips : List (Option Nat) → List Value → List (Nat × Value)
  | some d :: l, v :: vs => (d, v) :: zips l vs
  | none :: l, _ :: vs => zips l vs
  | _, _ => []
theorem zips_eq : ∀ (tab : List Ent) (vs : List Value), zips (tab.map Ent.dst) vs = zipe tab vs
  | [], vs => rfl
  | ⟨some d, _, _⟩ :: l, [] => rfl
  | ⟨none, _, _⟩ :: l, [] => rfl
  | ⟨some d, _, _⟩ :: l, v :: vs => by
    show (d, v) :: zips (l.map Ent.dst) vs = (d, v) :: zipe l vs
    rw [zips_eq l vs]
  | ⟨none, _, _⟩ :: l, v :: vs => by
    show zips (l.map Ent.dst) vs = zipe l vs
    rw [zips_eq l vs]
/-- what an operation sees is written by itself and by those that it waits for alone -/
def locB (ops : Array Oper) (tab : List Ent) : Bool :=
  (List.range tab.length).all fun j => (List.range tab.length).all fun i => i == j || depB ops j i ||
    (match (tab[i]?.bind Ent.dst) with | some d => !((tab[j]?.map Ent.see).getD []).contains d | none => true)
theorem loc_of {tab : List Ent} (h : locB ops tab = true) {i j d : Nat} {ei ej : Ent} (hi : tab[i]? = some ei) (hj : tab[j]? = some ej) (hij : i ≠ j) (hd : depB ops j i = false) (he : ei.dst = some d) : d ∉ ej.see := by
  unfold locB at h
  have h1 := List.all_eq_true.1 h j (by simpa using (List.getElem?_eq_some_iff.1 hj).1)
  have h2 := List.all_eq_true.1 h1 i (by simpa using (List.getElem?_eq_some_iff.1 hi).1)
  rw [hi, hj, hd] at h2
  simp only [Option.bind_some, he, Option.map_some, Option.getD_some, Bool.or_false, Bool.or_eq_true, beq_iff_eq, hij, false_or, Bool.not_eq_true', List.contains_eq_mem, decide_eq_false_iff_not] at h2
  exact h2
theorem nodup_ent : ∀ (tab : List Ent), (slotsOf tab).Nodup → ∀ (i j d : Nat) (e e' : Ent), tab[i]? = some e → tab[j]? = some e' → e.dst = some d → e'.dst = some d → i = j
  | [], _, i, _, _, _, _, h, _, _, _ => by simp at h
  | p :: l, hn, 0, 0, _, _, _, _, _, _, _ => rfl
  | p :: l, hn, 0, j + 1, d, e, e', h, h', hd, hd' => by
    obtain rfl : p = e := by simpa using h
    exfalso
    have hm : d ∈ slotsOf l := List.mem_filterMap.2 ⟨e', List.mem_of_getElem? (by simpa using h'), hd'⟩
    have h3 : (d :: slotsOf l).Nodup := by
      have : slotsOf (p :: l) = d :: slotsOf l := by unfold slotsOf; rw [List.filterMap_cons, hd]
      rw [← this]; exact hn
    exact (List.nodup_cons.1 h3).1 hm
  | p :: l, hn, i + 1, 0, d, e, e', h, h', hd, hd' => by
    obtain rfl : p = e' := by simpa using h'
    exfalso
    have hm : d ∈ slotsOf l := List.mem_filterMap.2 ⟨e, List.mem_of_getElem? (by simpa using h), hd⟩
    have h3 : (d :: slotsOf l).Nodup := by
      have : slotsOf (p :: l) = d :: slotsOf l := by unfold slotsOf; rw [List.filterMap_cons, hd']
      rw [← this]; exact hn
    exact (List.nodup_cons.1 h3).1 hm
  | p :: l, hn, i + 1, j + 1, d, e, e', h, h', hd, hd' => by
    have hn' : (slotsOf l).Nodup := by
      cases hp : p.dst with
      | none =>
        have : slotsOf (p :: l) = slotsOf l := by unfold slotsOf; rw [List.filterMap_cons, hp]
        rw [← this]; exact hn
      | some d0 =>
        have : slotsOf (p :: l) = d0 :: slotsOf l := by unfold slotsOf; rw [List.filterMap_cons, hp]
        rw [this] at hn
        exact (List.nodup_cons.1 hn).2
    rw [nodup_ent l hn' i j d e e' (by simpa using h) (by simpa using h') hd hd']
theorem look_put (s : Act) (d : Option Nat) (v : Value) (hd : ∀ k, d = some k → k < s.tmps.size) (k : Nat) : look (s.put d v) k = updo (look s) d v k := by
  cases d with
  | none => rfl
  | some d => exact put_getD s d v k (hd d rfl)
theorem map_put (s : Act) (d : Option Nat) (v : Value) (hd : ∀ k, d = some k → k < s.tmps.size) (l : List Nat) : l.map (look (s.put d v)) = l.map (updo (look s) d v) :=
  List.map_congr_left fun k _ => look_put s d v hd k
theorem map_out (e : Nat → Value) (d : Option Nat) (v : Value) (l : List Nat) (h : ∀ k, d = some k → k ∉ l) : l.map (updo e d v) = l.map e := by
  refine List.map_congr_left fun k hk => ?_
  cases d with
  | none => rfl
  | some d =>
    show (if k = d then v else e k) = e k
    rw [if_neg (fun (h' : k = d) => h d rfl (h' ▸ hk))]
/-- THE LAW. 'S' (over the slots 'LS'): what holds throughout. 'R i': what operation i may do to the world. -/
theorem wp_region_fr {id : Nat} {a : Act} {w : World} (hm : P.follows .mixedOrders = true) (LS : List Nat) (S : List Value → World → Prop) (R : Nat → List Value → World → World → Prop) (tab : List Ent) (sl : List (Option Nat)) (hsl : tab.map Ent.dst = sl) (hdown : downB ops = true) (hloc : locB ops tab = true)
    (hlen : tab.length = ops.size) (hnd : decide (slotsOf tab).Nodup = true) (hlt0 : ((slotsOf tab).all fun d => decide (d < a.tmps.size)) = true) (hS : S (LS.map (look a)) w.drew)
    (base : List (Nat × Value)) (hbase : ∀ p ∈ base, a.tmps.getD p.1 undef = p.2) (hapart : (base.all fun p => !(slotsOf tab).contains p.1) = true)
    (hstab : ∀ (i j : Nat) (t : Ent), tab[j]? = some t → i ≠ j → ∀ (e : Nat → Value) x x', S (LS.map e) x → R i (LS.map e) x x' → t.fact (t.see.map e) x → t.fact (t.see.map e) x')
    (hstep : ∀ (i : Nat) (o : Oper) (t : Ent), ops[i]? = some o → tab[i]? = some t → ∀ s x, S (LS.map (look s)) x → (∀ p ∈ base, s.tmps.getD p.1 undef = p.2) →
      (∀ e ∈ o.after, Region.binds .any e = true → ∀ t', tab[e.on]? = some t' → t'.fact (t'.see.map (look s)) x) →
      (Region.wanted o (yielded ops s.tmps) = true ∧ ∀ K : Act → World → Prop, (∀ v x', S (LS.map (updo (look s) t.dst v)) x' → R i (LS.map (look s)) x x' → t.fact (t.see.map (updo (look s) t.dst v)) x' → K (s.put t.dst v) x') → Oper.wp P o s x K Q))
    (hdone : ∀ (e : Nat → Value) (vs : List Value) x, vs.length = tab.length → (∀ (i d : Nat) (t : Ent), tab[i]? = some t → t.dst = some d → e d = vs.getD i undef) → (∀ p ∈ base, e p.1 = p.2) → S (LS.map e) x →
      (∀ (i : Nat) (t : Ent), tab[i]? = some t → t.fact (t.see.map e) x) → Q .normal (fill a (zips sl vs)) x) : (Code.region id ops true).wp P Q a w := by
  subst hsl
  have hnd := of_decide_eq_true hnd
  have hlt : ∀ d, d ∈ slotsOf tab → d < a.tmps.size := fun d hd => of_decide_eq_true (List.all_eq_true.1 hlt0 d hd)
  have hap : ∀ p ∈ base, p.1 ∉ slotsOf tab := fun p hp hm => by
    have := List.all_eq_true.1 hapart p hp
    simp only [Bool.not_eq_true', List.contains_eq_mem, decide_eq_false_iff_not] at this
    exact this hm
  refine wp_region_inv hm (fun s x => S (LS.map (look s)) x ∧ s.tmps.size = a.tmps.size ∧ s.defers = a.defers ∧ (∀ k, k ∉ slotsOf tab → s.tmps.getD k undef = a.tmps.getD k undef))
    (fun i s x => ∀ t, tab[i]? = some t → t.fact (t.see.map (look s)) x) (hall_of hdown) ⟨hS, rfl, rfl, fun _ _ => rfl⟩ ?_ ?_
  · rintro i o ho s x ⟨hs, hsz, hdf, hout⟩ hdep
    have hi : i < tab.length := by rw [hlen]; exact (Array.getElem?_eq_some_iff.1 ho).1
    obtain ⟨t, ht⟩ : ∃ t, tab[i]? = some t := ⟨_, List.getElem?_eq_getElem hi⟩
    have hmem : t ∈ tab := List.mem_of_getElem? ht
    have hdl : ∀ k, t.dst = some k → k < s.tmps.size := fun k hk => by rw [hsz]; exact hlt k (List.mem_filterMap.2 ⟨t, hmem, hk⟩)
    refine wpOp_step ho fun K hK => ?_
    obtain ⟨hw, hstep'⟩ := hstep i o t ho ht s x hs (fun p hp => (hout p.1 (hap p hp)).trans (hbase p hp)) hdep
    rw [if_pos hw]
    refine hstep' K fun v x' hs' hr hf => ?_
    refine hK _ _ ⟨⟨by rw [map_put s t.dst v hdl]; exact hs', ?_, ?_, ?_⟩, ?_, ?_⟩
    · cases hd : t.dst with
      | none => exact hsz
      | some d => rw [put_size, hsz]
    · cases hd : t.dst with
      | none => exact hdf
      | some d => rw [put_defers, hdf]
    · intro k hk
      have h1 := look_put s t.dst v hdl k
      have h2 : updo (look s) t.dst v k = look s k := by
        cases hd : t.dst with
        | none => rfl
        | some d =>
          show (if k = d then v else look s k) = _
          rw [if_neg (fun (h : k = d) => hk (h ▸ List.mem_filterMap.2 ⟨t, hmem, hd⟩))]
      exact (h1.trans h2).trans (hout k hk)
    · intro t' ht'
      rw [ht] at ht'
      obtain rfl := Option.some.inj ht'
      rw [map_put s t.dst v hdl]
      exact hf
    · intro j hj hd hF t' ht'
      have h2 := hstab i j t' ht' (fun e => hj e.symm) _ _ _ hs hr (hF t' ht')
      rw [map_put s t.dst v hdl, map_out (look s) t.dst v t'.see fun k hk => loc_of hloc ht ht' (fun e => hj e.symm) hd hk]
      exact h2
  · rintro s x ⟨hs, hsz, hdf, hout⟩ hF
    have hmemt : ∀ p ∈ (slotsOf tab).map (fun d => (d, s.tmps.getD d undef)), p.1 < a.tmps.size := fun p hp => by
      obtain ⟨d, hd, rfl⟩ := List.mem_map.1 hp
      exact hlt d hd
    have hfst : ((slotsOf tab).map (fun d => (d, s.tmps.getD d undef))).map Prod.fst = slotsOf tab := by simp [List.map_map, Function.comp_def]
    have e : s = fill a (zipe tab (tab.map fun p => valo s p.dst)) := by
      rw [zipe_map]
      refine act_ext (by rw [fill_size, hsz]) (by rw [fill_defers, hdf]) fun k _ => ?_
      by_cases hk : k ∈ slotsOf tab
      · rw [fill_in _ a k (s.tmps.getD k undef) hmemt (by rw [hfst]; exact hnd) (List.mem_map.2 ⟨k, hk, rfl⟩)]
      · rw [hout k hk, fill_out _ a k hmemt fun p hp e => hk (by obtain ⟨d, hd, rfl⟩ := List.mem_map.1 hp; exact e ▸ hd)]
    have h := hdone (look s) (tab.map fun p => valo s p.dst) x (by simp) (fun i d t h hd => by
      rw [List.getD_eq_getElem?_getD, List.getElem?_map, h]
      show look s d = valo s t.dst
      rw [hd]; rfl) (fun p hp => (hout p.1 (hap p hp)).trans (hbase p hp)) hs fun i t h => hF i (by rw [← hlen]; exact (List.getElem?_eq_some_iff.1 h).1) t h
    rwa [zips_eq, ← e] at h
end cin
end Go.Proofs.Ytohoajjdoihekaa
