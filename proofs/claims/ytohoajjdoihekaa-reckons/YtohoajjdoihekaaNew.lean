/-
  The table's law for 'x := f(..)' where x is a word in memory: its place is laid and written in the same statement.
-/
import Derived.Test.YtohoajjdoihekaaSt
set_option linter.unusedVariables false
set_option linter.unusedSimpArgs false
namespace Go.Proofs.Ytohoajjdoihekaa
open Go.RowKit
namespace cin
set_option maxRecDepth 100000
theorem st_alloc {s : Act} {x : World} {pos : String} {af : Array Edge} {g : Option (Nat × Bool)} {K : Act → World → Prop} {Q : Exit → Act → World → Prop} (d : Nat) {ty : TypeId}
    (hK : K (s.put (some d) (.pointer (some ⟨x.heap.size, 0, none⟩))) (x.alloc (.cells #[.int .u64 0, .int .u64 0, .int .u64 0, .int .u64 0] 24))) :
    Oper.wp Try.prog { dst := some d, op := .alloc 24, type := ty, pos := pos, after := af, guard := g } s x K Q := by
  go_simp
  exact hK
theorem st_store {s : Act} {x : World} {pos : String} {af : Array Edge} {g : Option (Nat × Bool)} {K : Act → World → Prop} {Q : Exit → Act → World → Prop} (d u p r : Nat) {f : Nat → Int} {ty : TypeId}
    (he : s.tmps.getD d undef = .pointer (some ⟨p, 0, none⟩)) (hu : s.tmps.getD u undef = wv r) (hr : x.rowIs p 24 4 (u64s f))
    (hK : K s ((((x.setCell ⟨p, 0, none⟩ (.int .u64 (limb r 0))).setCell ⟨p, 1, none⟩ (.int .u64 (limb r 1))).setCell ⟨p, 2, none⟩ (.int .u64 (limb r 2))).setCell ⟨p, 3, none⟩ (.int .u64 (limb r 3)))) :
    Oper.wp Try.prog { dst := none, op := .store 24 (.tmp d) (.tmp u), type := ty, pos := pos, after := af, guard := g } s x K Q := by
  have he2 : s.eval (.tmp d) = .pointer (some ⟨p, 0, none⟩) := he
  have hu2 : s.eval (.tmp u) = wv r := hu
  obtain ⟨y0, y1, y2, y3⟩ := row_cells4 hr
  have fz := hr.frozen
  go_simp
  exact hK
theorem wp_region_new {ops : Array Oper} {Q : Exit → Act → World → Prop} {id : Nat} {a : Act} {w : World} (m d u r ju : Nat) {pos1 pos2 : String} {af1 af2 : Array Edge} {ty1 ty2 : TypeId}
    (S : World → Prop) (tab : List (Nat × Value)) (hdown : downB ops = true) (hlen : tab.length = m) (hops : ops.size = m + 2)
    (hnd : decide (d :: tab.map Prod.fst).Nodup = true) (hlt0 : ((d :: tab.map Prod.fst).all fun k => decide (k < a.tmps.size)) = true)
    (hS : S w.drew) (hSa : ∀ (x : World) o, S x → S (x.alloc o)) (hSs : ∀ (x : World) (p : Addr) v, S x → w.heap.size ≤ p.block → S (x.setCell p v)) (hSz : ∀ x : World, S x → w.heap.size ≤ x.heap.size)
    (base : List (Nat × Value)) (hbase : ∀ p ∈ base, a.tmps.getD p.1 undef = p.2) (hapart : (base.all fun p => !(d :: tab.map Prod.fst).contains p.1) = true)
    (hal : ops[m]? = some { dst := some d, op := .alloc 24, type := ty1, pos := pos1, after := af1, guard := none })
    (hst : ops[m + 1]? = some { dst := none, op := .store 24 (.tmp d) (.tmp u), type := ty2, pos := pos2, after := af2, guard := none })
    (hju : tab[ju]? = some (u, wv r)) (he1 : ⟨m, .data⟩ ∈ af2) (he2 : ⟨ju, .data⟩ ∈ af2)
    (hstep : ∀ (i : Nat) (o : Oper) (d' : Nat) (v : Value), i < m → ops[i]? = some o → tab[i]? = some (d', v) → ∀ s x, S x → (∀ p ∈ base, s.tmps.getD p.1 undef = p.2) →
      (∀ e ∈ o.after, Region.binds .any e = true → ∀ d' v', tab[e.on]? = some (d', v') → s.tmps.getD d' undef = v') →
      Region.wanted o (yielded ops s.tmps) = true ∧ ∀ K : Act → World → Prop, (∀ x', S x' → Below x.heap.size x x' → K (s.put (some d') v) x') → Oper.wp Try.prog o s x K Q)
    (hdone : ∀ x p, S x → w.heap.size ≤ p → x.rowIs p 24 4 (u64s (limb r)) → Q .normal (fill a (tab ++ [(d, .pointer (some ⟨p, 0, none⟩))])) x) : (Code.region id ops true).wp Try.prog Q a w := by
  have hnd := of_decide_eq_true hnd
  have hndt : (tab.map Prod.fst).Nodup := (List.nodup_cons.1 hnd).2
  have hdn : d ∉ tab.map Prod.fst := (List.nodup_cons.1 hnd).1
  have hltd : d < a.tmps.size := of_decide_eq_true (List.all_eq_true.1 hlt0 d List.mem_cons_self)
  have hlt : ∀ p ∈ tab, p.1 < a.tmps.size := fun p hp => of_decide_eq_true (List.all_eq_true.1 hlt0 p.1 (List.mem_cons_of_mem _ (List.mem_map.2 ⟨p, hp, rfl⟩)))
  have hap : ∀ p ∈ base, p.1 ∉ d :: tab.map Prod.fst := fun p hp hm => by
    have := List.all_eq_true.1 hapart p hp
    simp only [Bool.not_eq_true', List.contains_eq_mem, decide_eq_false_iff_not] at this
    exact this hm
  have htm : ∀ i d' v, tab[i]? = some (d', v) → i < m ∧ d' ≠ d ∧ d' < a.tmps.size := fun i d' v h => by
    have hmem := List.mem_of_getElem? h
    refine ⟨by rw [← hlen]; exact (List.getElem?_eq_some_iff.1 h).1, ?_, hlt _ hmem⟩
    rintro rfl
    exact hdn (List.mem_map.2 ⟨_, hmem, rfl⟩)
  refine wp_region_inv (by kernel_rfl) (fun s x => S x ∧ s.tmps.size = a.tmps.size ∧ s.defers = a.defers ∧ ∀ k, k ∉ d :: tab.map Prod.fst → s.tmps.getD k undef = a.tmps.getD k undef)
    (fun i s x => (∀ d' v, tab[i]? = some (d', v) → s.tmps.getD d' undef = v) ∧ (i = m → ∃ (p : Nat) (f : Nat → Int), s.tmps.getD d undef = .pointer (some ⟨p, 0, none⟩) ∧ x.rowIs p 24 4 (u64s f) ∧ w.heap.size ≤ p) ∧
      (i = m + 1 → ∃ p : Nat, s.tmps.getD d undef = .pointer (some ⟨p, 0, none⟩) ∧ x.rowIs p 24 4 (u64s (limb r)) ∧ w.heap.size ≤ p)) (hall_of hdown) ⟨hS, rfl, rfl, fun _ _ => rfl⟩ ?_ ?_
  · rintro i o ho s x ⟨hs, hsz, hdf, hout⟩ hdep
    have hi : i < m + 2 := by rw [← hops]; exact (Array.getElem?_eq_some_iff.1 ho).1
    have hb : ∀ p ∈ base, s.tmps.getD p.1 undef = p.2 := fun p hp => (hout p.1 (hap p hp)).trans (hbase p hp)
    by_cases him : i < m
    · obtain ⟨⟨d', v⟩, hdv⟩ : ∃ p, tab[i]? = some p := ⟨_, List.getElem?_eq_getElem (by rw [hlen]; exact him)⟩
      have hmem : (d', v) ∈ tab := List.mem_of_getElem? hdv
      obtain ⟨-, hdd, hdl⟩ := htm i d' v hdv
      have hd : d' < s.tmps.size := by rw [hsz]; exact hdl
      refine wpOp_step ho fun K hK => ?_
      obtain ⟨hw, hstep'⟩ := hstep i o d' v him ho hdv s x hs hb (fun e he hbi => (hdep e he hbi).1)
      rw [if_pos hw]
      refine hstep' K fun x' hs' hbel => hK _ _ ⟨⟨hs', by rw [put_size, hsz], by rw [put_defers, hdf], ?_⟩, ⟨?_, fun e => by omega, fun e => by omega⟩, ?_⟩
      · intro k hk
        rw [put_getD _ _ _ _ hd, if_neg (fun (h : k = d') => hk (List.mem_cons_of_mem _ (List.mem_map.2 ⟨_, hmem, h.symm⟩))), hout k hk]
      · intro d2 v2 h2
        rw [hdv] at h2
        obtain ⟨rfl, rfl⟩ := Prod.mk.inj (Option.some.inj h2)
        rw [put_getD _ _ _ _ hd, if_pos rfl]
      · rintro j hj - ⟨hF1, hF2, hF3⟩
        refine ⟨?_, ?_, ?_⟩
        · intro d2 v2 h2
          rw [put_getD _ _ _ _ hd, if_neg, hF1 d2 v2 h2]
          rintro rfl
          have e1 : (tab.map Prod.fst)[i]? = some d2 := by rw [List.getElem?_map, hdv]; rfl
          have e2 : (tab.map Prod.fst)[j]? = some d2 := by rw [List.getElem?_map, h2]; rfl
          exact hj ((List.getElem?_inj (by simpa [hlen] using him) hndt).1 (e1.trans e2.symm)).symm
        · intro e
          obtain ⟨p, f, h1, h2, h3⟩ := hF2 e
          exact ⟨p, f, by rw [put_getD _ _ _ _ hd, if_neg (fun h => hdd h.symm)]; exact h1, row_below h2 hbel, h3⟩
        · intro e
          obtain ⟨p, h1, h2, h3⟩ := hF3 e
          exact ⟨p, by rw [put_getD _ _ _ _ hd, if_neg (fun h => hdd h.symm)]; exact h1, row_below h2 hbel, h3⟩
    · have hmm : i = m ∨ i = m + 1 := by omega
      rcases hmm with rfl | rfl
      · rw [hal] at ho
        obtain rfl := Option.some.inj ho
        refine wpOp_step hal fun K hK => ?_
        rw [if_pos (want_none rfl)]
        have hd : d < s.tmps.size := by rw [hsz]; exact hltd
        refine st_alloc d (hK _ _ ⟨⟨hSa _ _ hs, by rw [put_size, hsz], by rw [put_defers, hdf], ?_⟩, ⟨?_, ?_, fun e => by omega⟩, ?_⟩)
        · intro k hk
          rw [put_getD _ _ _ _ hd, if_neg (fun (h : k = d) => hk (h ▸ List.mem_cons_self)), hout k hk]
        · intro d2 v2 h2
          have := (htm _ _ _ h2).1
          omega
        · intro _
          exact ⟨x.heap.size, fun _ => 0, by rw [put_getD _ _ _ _ hd, if_pos rfl], row_lit4 _ rfl rfl rfl rfl rfl, hSz x hs⟩
        · rintro j hj hjd ⟨hF1, hF2, hF3⟩
          refine ⟨?_, fun e => absurd e hj, ?_⟩
          · intro d2 v2 h2
            rw [put_getD _ _ _ _ hd, if_neg (htm _ _ _ h2).2.1, hF1 d2 v2 h2]
          · intro e
            exfalso
            subst e
            have : depB ops (i + 1) i = true := by
              unfold depB
              rw [hst]
              simp only [Option.map_some, Option.getD_some, Array.any_eq_true', Bool.and_eq_true, beq_iff_eq]
              exact ⟨_, he1, rfl, rfl⟩
            rw [this] at hjd
            cases hjd
      · rw [hst] at ho
        obtain rfl := Option.some.inj ho
        refine wpOp_step hst fun K hK => ?_
        rw [if_pos (want_none rfl)]
        obtain ⟨p, f, h1, h2, h3⟩ := (hdep _ he1 rfl).2.1 rfl
        have hu := (hdep _ he2 rfl).1 u _ hju
        refine st_store d u p r h1 hu h2 (hK _ _ ⟨⟨hSs _ _ _ (hSs _ _ _ (hSs _ _ _ (hSs _ _ _ hs h3) h3) h3) h3, hsz, hdf, hout⟩, ⟨?_, fun e => by omega, fun _ => ⟨p, h1, row_put4 h2 (limb r) rfl rfl rfl rfl, h3⟩⟩, ?_⟩)
        · intro d2 v2 h2
          have := (htm _ _ _ h2).1
          omega
        · rintro j hj - ⟨hF1, hF2, hF3⟩
          exact ⟨hF1, fun _ => ⟨p, limb r, h1, row_put4 h2 (limb r) rfl rfl rfl rfl, h3⟩, fun e => absurd e hj⟩
  · rintro s x ⟨hs, hsz, hdf, hout⟩ hF
    obtain ⟨p, h1, h2, h3⟩ := (hF (m + 1) (by omega)).2.2 rfl
    have hlt2 : ∀ q ∈ tab ++ [(d, Value.pointer (some ⟨p, 0, none⟩))], q.1 < a.tmps.size := by
      intro q hq
      rcases List.mem_append.1 hq with hq | hq
      · exact hlt q hq
      · rw [List.mem_singleton.1 hq]; exact hltd
    have hnd2 : ((tab ++ [(d, Value.pointer (some ⟨p, 0, none⟩))]).map Prod.fst).Nodup := by
      rw [List.map_append, List.nodup_append]
      refine ⟨hndt, by simp, ?_⟩
      intro q hq q' hq' e
      simp only [List.map_cons, List.map_nil, List.mem_singleton] at hq'
      exact hdn (hq' ▸ e ▸ hq)
    have e : s = fill a (tab ++ [(d, .pointer (some ⟨p, 0, none⟩))]) := by
      refine act_ext (by rw [fill_size, hsz]) (by rw [fill_defers, hdf]) fun k _ => ?_
      by_cases hk : k ∈ tab.map Prod.fst
      · obtain ⟨⟨d', v⟩, hmem, rfl⟩ := List.mem_map.1 hk
        obtain ⟨i, hi, hiv⟩ := List.getElem_of_mem hmem
        rw [fill_in _ a d' v hlt2 hnd2 (List.mem_append.2 (Or.inl hmem))]
        exact (hF i (by omega)).1 d' v (by rw [List.getElem?_eq_getElem hi, hiv])
      · by_cases hkd : k = d
        · subst hkd
          rw [fill_in _ a k _ hlt2 hnd2 (List.mem_append.2 (Or.inr List.mem_cons_self)), h1]
        · rw [hout k (by simp only [List.mem_cons, not_or]; exact ⟨hkd, hk⟩), fill_out _ a k hlt2]
          intro q hq e
          rcases List.mem_append.1 hq with hq | hq
          · exact hk (List.mem_map.2 ⟨q, hq, e⟩)
          · rw [List.mem_singleton.1 hq] at e; exact hkd e.symm
    rw [e]
    exact hdone x p hs h3 h2
end cin
end Go.Proofs.Ytohoajjdoihekaa
