import Derived.Test.YtohoajjdoihekaaGreatDoorHj
set_option linter.unusedVariables false
set_option linter.unusedSimpArgs false
namespace Go.Proofs.YtohoajjdoihekaaGreatDoor
namespace cin
section
open Go.RowKit
abbrev zw : Obj := .cells #[.int .u64 0, .int .u64 0, .int .u64 0, .int .u64 0] 24
theorem st_allocw {d : Nat} {ty : TypeId} {s : Act} {x : World} {pos : String} {af : Array Edge} {g : Option (Nat × Bool)} {K : Act → World → Prop} {Q : Exit → Act → World → Prop}
  (hK : K (s.put (some d) (.pointer (some ⟨x.heap.size, 0, none⟩))) (x.alloc zw)) :
  Oper.wp Tryz.prog ⟨some d, .alloc 24, ty, pos, af, g⟩ s x K Q := by
 go_simp
 exact hK
abbrev Kn := Nat × Value → List Nat → Value → World → Prop
def Stable (T : Kn) : Prop := ∀ c c' S S' v x x', T c S v x → ((c' = c ∧ S' = S ∧ Below x.heap.size x x') ∨ (c.1 < c'.1 ∧ Kb S x x' ∧ ∀ k ∈ S', k ∈ S ∨ x.heap.size ≤ k)) → T c' S' v x'
theorem stable_of {T : Kn} (h : ∀ c c' S S' v x x', T c S v x → (c' = c ∨ c.1 < c'.1) → Kb S x x' → (∀ k ∈ S', k ∈ S ∨ x.heap.size ≤ k) → T c' S' v x') : Stable T := fun c c' S S' v x x' ht hk => by
 rcases hk with ⟨h1, h2, h3⟩ | ⟨h1, h2, h3⟩
 ·exact h c c' S S' v x x' ht (Or.inl h1) (Kb.of_below h3) (fun k hk => Or.inl (h2 ▸ hk))
 ·exact h c c' S S' v x x' ht (Or.inr h1) h2 h3
def StableB (T : Kn) : Prop := ∀ c S v x x', T c S v x → x.heap.size ≤ x'.heap.size → T c S v x'
def Cst (c : Value) : Kn := fun _ _ v _ => v = c
theorem cst_stable (c : Value) : Stable (Cst c) := stable_of fun _ _ _ _ _ _ _ h _ _ _ => h
theorem cst_stableB (c : Value) : StableB (Cst c) := fun _ _ _ _ _ h _ => h
def Plc : Kn := fun _ S v x => ∃ b, v = .pointer (some ⟨b, 0, none⟩) ∧ b ∉ S ∧ b < x.heap.size
theorem plc_stable : Stable Plc := stable_of fun _ _ S S' v x x' ⟨b, h1, h2, h3⟩ _ hk hs => ⟨b, h1, fun hm => (hs b hm).elim h2 (fun h => by omega), Nat.lt_of_lt_of_le h3 hk.size⟩
theorem plc_stableB : StableB Plc := fun _ S v x x' ⟨b, h1, h2, h3⟩ hs => ⟨b, h1, h2, Nat.lt_of_lt_of_le h3 hs⟩
structure Bx where
 ia : Nat
 is : Nat
 sl : Nat
 n : Nat
abbrev Tb := List (Option Nat × Kn)
abbrev slotsOf (tab : Tb) : List Nat := tab.filterMap Prod.fst
def valq (s : Act) : Option Nat → Value
 | some d => s.tmps.getD d undef
 | none => undef
def zipq : Tb → List Value → List (Nat × Value)
 | (some d, _) :: l, v :: vs => (d, v) :: zipq l vs
 | (none, _) :: l, _ :: vs => zipq l vs
 | _, _ => []
theorem zipq_map (s : Act) : ∀ tab : Tb, zipq tab (tab.map fun p => valq s p.1) = (slotsOf tab).map fun d => (d, s.tmps.getD d undef)
 | [] => rfl
 | (some d, T) :: l => by
  show (d, _) :: zipq l _ = _
  rw [zipq_map s l]; rfl
 | (none, T) :: l => by
  show zipq l _ = _
  rw [zipq_map s l]; rfl
theorem nodup_q : ∀ (tab : Tb), (slotsOf tab).Nodup → ∀ (i j d : Nat) (T T' : Kn), tab[i]? = some (some d, T) → tab[j]? = some (some d, T') → i = j
 | [], _, i, _, _, _, _, h, _ => by simp at h
 | p :: l, hn, 0, 0, _, _, _, _, _ => rfl
 | p :: l, hn, 0, j + 1, d, T, T', h, h' => by
  obtain rfl : p = (some d, T) := by simpa using h
  exfalso
  have hm : d ∈ slotsOf l := List.mem_filterMap.2 ⟨(some d, T'), List.mem_of_getElem? (by simpa using h'), rfl⟩
  exact (List.nodup_cons.1 (show (d :: slotsOf l).Nodup from hn)).1 hm
 | p :: l, hn, i + 1, 0, d, T, T', h, h' => by
  obtain rfl : p = (some d, T') := by simpa using h'
  exfalso
  have hm : d ∈ slotsOf l := List.mem_filterMap.2 ⟨(some d, T), List.mem_of_getElem? (by simpa using h), rfl⟩
  exact (List.nodup_cons.1 (show (d :: slotsOf l).Nodup from hn)).1 hm
 | p :: l, hn, i + 1, j + 1, d, T, T', h, h' => by
  have hn' : (slotsOf l).Nodup := by
   obtain ⟨o, T0⟩ := p
   cases o with
   | none => exact hn
   | some d0 => exact (List.nodup_cons.1 (show (d0 :: slotsOf l).Nodup from hn)).2
  rw [nodup_q l hn' i j d T T' (by simpa using h) (by simpa using h')]
theorem mem_slots {tab : Tb} {i d : Nat} {T : Kn} (h : tab[i]? = some (some d, T)) : d ∈ slotsOf tab := List.mem_filterMap.2 ⟨_, List.mem_of_getElem? h, rfl⟩
theorem valq_put (s : Act) (d : Option Nat) (v : Value) (k : Nat) (hd : ∀ e, d = some e → e < s.tmps.size ∧ e ≠ k) : (s.put d v).tmps.getD k undef = s.tmps.getD k undef := by
 cases d with
 | none => rfl
 | some e => rw [put_getD _ _ _ _ (hd e rfl).1, if_neg (fun h => (hd e rfl).2 h.symm)]
theorem Fr.footlt {base fb : Nat} {F : FS} {S : List Nat} {sv mv : Value} {w : World} (h : Fr base fb F S sv mv w) : ∀ k ∈ S, k < w.heap.size := by
 intro k hk
 rw [h.foot] at hk
 rcases List.mem_cons.1 hk with h1 | h1
 ·rw [h1]; exact h.row.lt
 ·rcases List.mem_append.1 h1 with h2 | h2
  ·exact (h.st.lt k (by simpa using h2)).2
  ·exact (h.me.lt k (by simpa using h2)).2
theorem Fr.kb {base fb : Nat} {F : FS} {S T : List Nat} {sv mv : Value} {w w' : World} (h : Fr base fb F S sv mv w) (hk : Kb T w w') (hT : ∀ k ∈ S, k ∉ T) (h0 : 0 ∉ T) (hbn : ∀ g N f, w.rowIs g 4 N f → g ∉ T) : Fr base fb F S sv mv w' :=
 ⟨hk.row h.row (hT fb (by rw [h.foot]; simp)), hk.own h.st (fun k hk2 => hT k (by rw [h.foot]; simp [hk2])), hk.own h.me (fun k hk2 => hT k (by rw [h.foot]; simp [hk2])), h.foot, h.stl, h.mel, h.gal, Nat.le_trans h.hb hk.size, zr_kb h.zr hk h0 h.hs, h.hb1, h.hfb, h.m32, h.jr.kb hk hbn⟩
def put4 (x : World) (b n : Nat) : World := (((x.setCell ⟨b, 0, none⟩ (.int .u64 (limb n 0))).setCell ⟨b, 1, none⟩ (.int .u64 (limb n 1))).setCell ⟨b, 2, none⟩ (.int .u64 (limb n 2))).setCell ⟨b, 3, none⟩ (.int .u64 (limb n 3))
theorem put4_kb (x : World) (b n : Nat) : Kb [b] x (put4 x b n) := ((((Kb.refl [b] x).setCell (Or.inl (by simp)) _).setCell (Or.inl (by simp)) _).setCell (Or.inl (by simp)) _).setCell (Or.inl (by simp)) _
theorem get_set (l : Array Bool) (i j : Nat) (hi : i < l.size) : (l.setIfInBounds i true).getD j false = if i = j then true else l.getD j false := by
 by_cases e : i = j
 ·subst e; simp [Array.getD_eq_getD_getElem?, hi]
 ·simp [Array.getD_eq_getD_getElem?, Array.getElem?_setIfInBounds, e]
variable {ops : Array Oper} {Q : Exit → Act → World → Prop}
structure GG (ops : Array Oper) (base fb : Nat) (Fk : Nat → FS) (S0 : List Nat) (w0 : World) (tab : Tb) (calls : List Nat) (bxs : List Bx) (a : Act) (l : Array Bool) (s : Act) (x : World) (k : Nat) (S : List Nat) (sv mv : Value) : Prop where
 cnt : ∀ (p c : Nat), calls[p]? = some c → (l.getD c false = true ↔ p < k)
 kle : k ≤ calls.length
 fr : Fr base fb (Fk k) S sv mv x
 kb : Kb S0 w0 x
 sub : ∀ j ∈ S, j ∈ S0 ∨ w0.heap.size ≤ j
 sz : s.tmps.size = a.tmps.size
 df : s.defers = a.defers
 out : ∀ j, j ∉ slotsOf tab → s.tmps.getD j undef = a.tmps.getD j undef
 kn : ∀ (i : Nat) (d : Option Nat) (T : Kn), tab[i]? = some (d, T) → l.getD i false = true → T (k, mv) S (valq s d) x
 bx : ∀ b ∈ bxs, l.getD b.ia false = true → ∀ bl, s.tmps.getD b.sl undef = .pointer (some ⟨bl, 0, none⟩) → w0.heap.size ≤ bl ∧ x.rowIs bl 24 4 (u64s (if l.getD b.is false = true then limb b.n else fun _ => 0))
 bc : ∀ b ∈ bxs, l.getD b.is false = true → l.getD b.ia false = true
 cl : ∀ i j, l.getD i false = true → depB ops i j = true → l.getD j false = true
 bd : ∀ b ∈ bxs, ∀ b' ∈ bxs, b.ia ≠ b'.ia → l.getD b.ia false = true → l.getD b'.ia false = true → s.tmps.getD b.sl undef ≠ s.tmps.getD b'.sl undef
theorem depB_of {i j : Nat} {o : Oper} (ho : ops[i]? = some o) (h : depB ops i j = true) : ∃ e ∈ o.after, Region.binds .any e = true ∧ e.on = j := by
 unfold depB at h
 rw [ho] at h
 simp only [Option.map_some, Option.getD_some, Array.any_eq_true', Bool.and_eq_true, beq_iff_eq] at h
 obtain ⟨e, he, h1, h2⟩ := h
 exact ⟨e, he, h1, h2⟩
theorem GG.upd {base fb : Nat} {Fk : Nat → FS} {S0 : List Nat} {w0 : World} {tab : Tb} {calls : List Nat} {bxs : List Bx} {a : Act} {l : Array Bool} {s : Act} {x : World} {k : Nat} {S : List Nat} {sv mv : Value}
  (G : GG ops base fb Fk S0 w0 tab calls bxs a l s x k S sv mv) (hnd : (slotsOf tab).Nodup) (hlt : ∀ d, d ∈ slotsOf tab → d < a.tmps.size)
  (hstab : ∀ (i : Nat) (d : Option Nat) (T : Kn), tab[i]? = some (d, T) → Stable T) (hba : ∀ b ∈ bxs, tab[b.ia]? = some (some b.sl, Plc))
  {i : Nat} {d : Option Nat} {T : Kn} {v : Value} {x' : World} {k' : Nat} {S' : List Nat} {sv' mv' : Value} (hi : i < l.size) (hdv : tab[i]? = some (d, T)) (hnb : ∀ b ∈ bxs, i ≠ b.ia ∧ i ≠ b.is)
  (hcl : ∀ i' j, (l.setIfInBounds i true).getD i' false = true → depB ops i' j = true → (l.setIfInBounds i true).getD j false = true) (hcnt : ∀ (p c : Nat), calls[p]? = some c → ((l.setIfInBounds i true).getD c false = true ↔ p < k')) (hkle : k' ≤ calls.length) (hF : Fr base fb (Fk k') S' sv' mv' x') (hkb : Kb S x x') (hsub : ∀ j ∈ S', j ∈ S ∨ x.heap.size ≤ j) (hv : d = none → v = undef) (hkk : ((k', mv') = (k, mv) ∧ S' = S ∧ Below x.heap.size x x') ∨ (k < k' ∧ Kb S x x' ∧ ∀ k ∈ S', k ∈ S ∨ x.heap.size ≤ k)) (hT : T (k', mv') S' v x') :
  GG ops base fb Fk S0 w0 tab calls bxs a (l.setIfInBounds i true) (s.put d v) x' k' S' sv' mv' := by
 have hds : ∀ e, d = some e → e < s.tmps.size := fun e he => by rw [G.sz]; exact hlt e (mem_slots (by rw [hdv, he]))
 have hother : ∀ (j : Nat) (dj : Option Nat) (Tj : Kn), tab[j]? = some (dj, Tj) → j ≠ i → valq (s.put d v) dj = valq s dj := fun j dj Tj hj hne => by
  cases dj with
  | none => rfl
  | some e =>
   refine valq_put s d v e fun e' he' => ⟨hds e' he', fun h => ?_⟩
   subst h
   exact hne (nodup_q tab hnd j i e' Tj T hj (by rw [hdv, he']))
 have hslot : ∀ b ∈ bxs, (s.put d v).tmps.getD b.sl undef = s.tmps.getD b.sl undef := fun b hb => hother b.ia (some b.sl) Plc (hba b hb) (hnb b hb).1.symm
 refine ⟨hcnt, hkle, hF, G.kb.trans hkb G.sub, fun j hj => ?_, ?_, ?_, fun j hj => ?_, fun j dj Tj hj hl => ?_, fun b hb hl bl hbl => ?_, fun b hb hl => ?_, hcl, fun b hb b' hb' hne hl hl' => ?_⟩
 ·rcases hsub j hj with h | h
  ·exact G.sub j h
  ·exact Or.inr (Nat.le_trans G.kb.size h)
 ·rw [← G.sz]
  cases d <;> simp [Act.put]
 ·rw [← G.df]
  cases d <;> rfl
 ·rw [← G.out j hj]
  refine valq_put s d v j fun e he => ⟨hds e he, fun h => hj ?_⟩
  subst h
  exact mem_slots (by rw [hdv, he])
 ·by_cases e : j = i
  ·subst e
   rw [hdv] at hj
   obtain ⟨rfl, rfl⟩ := Prod.mk.inj (Option.some.inj hj)
   cases d with
   | none => rw [hv rfl] at hT; exact hT
   | some e' =>
    show T (k', mv') S' ((s.put (some e') v).tmps.getD e' undef) x'
    rw [put_getD _ _ _ _ (hds e' rfl), if_pos rfl]
    exact hT
  ·rw [get_set l i j hi, if_neg (fun h => e h.symm)] at hl
   rw [hother j dj Tj hj e]
   exact hstab j dj Tj hj (k, mv) (k', mv') S S' _ x x' (G.kn j dj Tj hj hl) hkk
 ·rw [get_set l i b.ia hi, if_neg (hnb b hb).1] at hl
  rw [hslot b hb] at hbl
  rw [get_set l i b.is hi, if_neg (hnb b hb).2]
  obtain ⟨b0, e0, h0, _⟩ := G.kn b.ia (some b.sl) Plc (hba b hb) hl
  have e1 : b0 = bl := by
   have : Value.pointer (some ⟨b0, 0, none⟩) = Value.pointer (some ⟨bl, 0, none⟩) := e0.symm.trans hbl
   injection this with this
   injection this with this
   injection this
  subst e1
  exact ⟨(G.bx b hb hl _ hbl).1, hkb.row (G.bx b hb hl _ hbl).2 h0⟩
 ·rw [get_set l i b.is hi, if_neg (hnb b hb).2] at hl
  rw [get_set l i b.ia hi, if_neg (hnb b hb).1]
  exact G.bc b hb hl
 ·rw [get_set l i b.ia hi, if_neg (hnb b hb).1] at hl
  rw [get_set l i b'.ia hi, if_neg (hnb b' hb').1] at hl'
  rw [hslot b hb, hslot b' hb']
  exact G.bd b hb b' hb' hne hl hl'
theorem bx_inj : ∀ {bxs : List Bx}, (bxs.flatMap fun b => [b.ia, b.is]).Nodup → ∀ {b b' : Bx}, b ∈ bxs → b' ∈ bxs → b.ia = b'.ia → b = b'
 | c :: r, hn, b, b', hb, hb', h => by
  have hn2 : (c.ia :: c.is :: r.flatMap fun b => [b.ia, b.is]).Nodup := hn
  obtain ⟨h1, h2⟩ := List.nodup_cons.1 hn2
  have h3 := (List.nodup_cons.1 h2).2
  rcases List.mem_cons.1 hb with rfl | hb1 <;> rcases List.mem_cons.1 hb' with rfl | hb2
  ·rfl
  ·exact absurd (List.mem_cons_of_mem _ (List.mem_flatMap.2 ⟨b', hb2, by simp [h]⟩)) h1
  ·exact absurd (List.mem_cons_of_mem _ (List.mem_flatMap.2 ⟨b, hb1, by simp [h]⟩)) h1
  ·exact bx_inj h3 hb1 hb2 h
theorem bx_injs : ∀ {bxs : List Bx}, (bxs.flatMap fun b => [b.ia, b.is]).Nodup → ∀ {b b' : Bx}, b ∈ bxs → b' ∈ bxs → b.is = b'.is → b.ia = b'.ia
 | c :: r, hn, b, b', hb, hb', h => by
  have hn2 : (c.ia :: c.is :: r.flatMap fun b => [b.ia, b.is]).Nodup := hn
  obtain ⟨h1, h2⟩ := List.nodup_cons.1 hn2
  obtain ⟨h4, h3⟩ := List.nodup_cons.1 h2
  rcases List.mem_cons.1 hb with rfl | hb1 <;> rcases List.mem_cons.1 hb' with rfl | hb2
  ·rfl
  ·exact absurd (List.mem_flatMap.2 ⟨b', hb2, by simp [h]⟩) h4
  ·exact absurd (List.mem_flatMap.2 ⟨b, hb1, by simp [h]⟩) h4
  ·exact bx_injs h3 hb1 hb2 h
def ancB (ops : Array Oper) : Nat → Nat → Nat → Bool
 | 0, i, c => depB ops i c
 | f + 1, i, c => depB ops i c || (List.range ops.size).any fun j => depB ops i j && ancB ops f j c
theorem anc_of {l : Array Bool} (hcl : ∀ i j, l.getD i false = true → depB ops i j = true → l.getD j false = true) : ∀ (f i c : Nat), (∀ j, depB ops i j = true → l.getD j false = true) → ancB ops f i c = true → l.getD c false = true
 | 0, i, c, hd, h => hd c h
 | f + 1, i, c, hd, h => by
  unfold ancB at h
  rcases (Bool.or_eq_true_iff.1 h) with h1 | h1
  ·exact hd c h1
  ·obtain ⟨j, _, h2⟩ := List.any_eq_true.1 h1
   obtain ⟨h3, h4⟩ := Bool.and_eq_true_iff.1 h2
   exact anc_of hcl f j c (fun k hk => hcl j k (hd j h3) hk) h4
theorem wp_region_fs {id : Nat} {a : Act} {w : World} (hm : Tryz.prog.follows .mixedOrders = true) (hdown : downB ops = true)
  (base fb : Nat) (Fk : Nat → FS) (S0 : List Nat) (w0 : World) (hw0 : 0 < w0.heap.size) (tab : Tb) (calls : List Nat) (bxs : List Bx)
  (hlen : tab.length = ops.size) (hnd : decide (slotsOf tab).Nodup = true) (hlt0 : ((slotsOf tab).all fun d => decide (d < a.tmps.size)) = true)
  (hstab : ∀ (i : Nat) (d : Option Nat) (T : Kn), tab[i]? = some (d, T) → Stable T) (hstabB : bxs ≠ [] → ∀ (i : Nat) (d : Option Nat) (T : Kn), tab[i]? = some (d, T) → StableB T)
  (S1 : List Nat) (sv1 mv1 : Value) (hF : Fr base fb (Fk 0) S1 sv1 mv1 w.drew) (hK0 : Kb S0 w0 w.drew) (hS0 : ∀ j ∈ S1, j ∈ S0 ∨ w0.heap.size ≤ j)
  (bas : List (Nat × Value)) (hbas : ∀ p ∈ bas, a.tmps.getD p.1 undef = p.2) (hapart : (bas.all fun p => !(slotsOf tab).contains p.1) = true)
  (hchain : ((List.range (calls.length - 1)).all fun p => ancB ops 3 (calls.getD (p + 1) 0) (calls.getD p 0)) = true)
  (hix : decide (calls ++ bxs.flatMap fun b => [b.ia, b.is]).Nodup = true) (hcl : (calls.all fun c => decide (c < ops.size)) = true)
  (hba : ∀ b ∈ bxs, tab[b.ia]? = some (some b.sl, Plc) ∧ tab[b.is]? = some (none, Cst undef) ∧ depB ops b.is b.ia = true)
  (hq : ∀ (i : Nat) (o : Oper) (d : Option Nat) (T : Kn), ops[i]? = some o → tab[i]? = some (d, T) → i ∉ calls → (∀ b ∈ bxs, i ≠ b.ia ∧ i ≠ b.is) → ∀ s x k S sv mv, Fr base fb (Fk k) S sv mv x → Kb S0 w0 x → (∀ p ∈ bas, s.tmps.getD p.1 undef = p.2) →
   (∀ e ∈ o.after, Region.binds .any e = true → ∀ (d' : Option Nat) (T' : Kn), tab[e.on]? = some (d', T') → T' (k, mv) S (valq s d') x) →
   (∀ p c, calls[p]? = some c → ancB ops 3 c i = true → k ≤ p) →
   (Region.wanted o (yielded ops s.tmps) = true ∧ ∀ K : Act → World → Prop, (∀ v x', Below x.heap.size x x' → (d = none → v = undef) → T (k, mv) S v x' → K (s.put d v) x') → Oper.wp Tryz.prog o s x K Q))
  (hc : ∀ (p i : Nat) (o : Oper) (d : Option Nat) (T : Kn), calls[p]? = some i → ops[i]? = some o → tab[i]? = some (d, T) → ∀ s x S sv mv, Fr base fb (Fk p) S sv mv x → Kb S0 w0 x → (∀ j ∈ S, j ∈ S0 ∨ w0.heap.size ≤ j) → s.defers = a.defers → (∀ p ∈ bas, s.tmps.getD p.1 undef = p.2) →
   (∀ e ∈ o.after, Region.binds .any e = true → ∀ (d' : Option Nat) (T' : Kn), tab[e.on]? = some (d', T') → T' (p, mv) S (valq s d') x) →
   (Region.wanted o (yielded ops s.tmps) = true ∧ ∀ K : Act → World → Prop, (∀ v S' sv' mv' x', Fr base fb (Fk (p + 1)) S' sv' mv' x' → Kb S x x' → (∀ j ∈ S', j ∈ S ∨ x.heap.size ≤ j) → (d = none → v = undef) → T (p + 1, mv') S' v x' → K (s.put d v) x') → Oper.wp Tryz.prog o s x K Q))
  (hal : ∀ b ∈ bxs, ∀ o, ops[b.ia]? = some o → ∀ s x, (Region.wanted o (yielded ops s.tmps) = true ∧ ∀ K : Act → World → Prop, K (s.put (some b.sl) (.pointer (some ⟨x.heap.size, 0, none⟩))) (x.alloc zw) → Oper.wp Tryz.prog o s x K Q))
  (hst : ∀ b ∈ bxs, ∀ o, ops[b.is]? = some o → ∀ s x bl f S c, s.tmps.getD b.sl undef = .pointer (some ⟨bl, 0, none⟩) → x.rowIs bl 24 4 f →
   (∀ e ∈ o.after, Region.binds .any e = true → ∀ (d' : Option Nat) (T' : Kn), tab[e.on]? = some (d', T') → T' c S (valq s d') x) →
   (Region.wanted o (yielded ops s.tmps) = true ∧ ∀ K : Act → World → Prop, K (s.put none undef) (put4 x bl b.n) → Oper.wp Tryz.prog o s x K Q))
  (hdone : ∀ (vs : List Value) x S sv mv, Fr base fb (Fk calls.length) S sv mv x → Kb S0 w0 x → (∀ j ∈ S, j ∈ S0 ∨ w0.heap.size ≤ j) → vs.length = tab.length → (∀ (i : Nat) (d : Option Nat) (T : Kn), tab[i]? = some (d, T) → T (calls.length, mv) S (vs.getD i undef) x) →
   (∀ b ∈ bxs, ∀ bl, vs.getD b.ia undef = .pointer (some ⟨bl, 0, none⟩) → w0.heap.size ≤ bl ∧ x.rowIs bl 24 4 (u64s (limb b.n))) → Q .normal (fill a (zipq tab vs)) x) :
  (Code.region id ops true).wp Tryz.prog Q a w := by
 have hnd := of_decide_eq_true hnd
 have hix := of_decide_eq_true hix
 have hlt : ∀ d, d ∈ slotsOf tab → d < a.tmps.size := fun d hd => of_decide_eq_true (List.all_eq_true.1 hlt0 d hd)
 have hap : ∀ p ∈ bas, p.1 ∉ slotsOf tab := fun p hp hm => by
  have := List.all_eq_true.1 hapart p hp
  simp only [Bool.not_eq_true', List.contains_eq_mem, decide_eq_false_iff_not] at this
  exact this hm
 have hnotc : ∀ b ∈ bxs, b.ia ∉ calls ∧ b.is ∉ calls := fun b hb => by
  have hd := (List.nodup_append.1 hix).2.2
  exact ⟨fun h => hd b.ia h b.ia (List.mem_flatMap.2 ⟨b, hb, by simp⟩) rfl, fun h => hd b.is h b.is (List.mem_flatMap.2 ⟨b, hb, by simp⟩) rfl⟩
 have hbp : ∀ b ∈ bxs, tab[b.ia]? = some (some b.sl, Plc) := fun b hb => (hba b hb).1
 refine wp_region_st hm hdown (fun l s x => ∃ k S sv mv, GG ops base fb Fk S0 w0 tab calls bxs a l s x k S sv mv) ?_ ?_ ?_
 ·have hrep : ∀ j, (Array.replicate ops.size false).getD j false = false := fun j => by
   rw [Array.getD_eq_getD_getElem?, Array.getElem?_replicate]
   split <;> rfl
  exact ⟨0, S1, sv1, mv1, ⟨fun p c _ => (by rw [hrep]; simp), Nat.zero_le _, hF, hK0, hS0, rfl, rfl, fun _ _ => rfl, fun i d T _ hl => (by rw [hrep] at hl; cases hl), fun b _ hl => (by rw [hrep] at hl; cases hl), fun b _ hl => (by rw [hrep] at hl; cases hl), fun i j hl => (by rw [hrep] at hl; cases hl), fun b _ b' _ _ hl => (by rw [hrep] at hl; cases hl)⟩⟩
 ·rintro l i o hls ho hnl hdep s x ⟨k, S, sv, mv, G⟩
  have hio : i < ops.size := (Array.getElem?_eq_some_iff.1 ho).1
  have hil : i < l.size := by omega
  obtain ⟨⟨d, T⟩, hdv⟩ : ∃ p, tab[i]? = some p := ⟨_, List.getElem?_eq_getElem (by omega)⟩
  have hb' : ∀ p ∈ bas, s.tmps.getD p.1 undef = p.2 := fun p hp => (G.out p.1 (hap p hp)).trans (hbas p hp)
  have hdp : ∀ e ∈ o.after, Region.binds .any e = true → ∀ (d' : Option Nat) (T' : Kn), tab[e.on]? = some (d', T') → T' (k, mv) S (valq s d') x := fun e he hb d' T' h => G.kn _ _ _ h (hdep e he hb)
  have hdj : ∀ j, depB ops i j = true → l.getD j false = true := fun j hj => by
   obtain ⟨e, he, hb, hon⟩ := depB_of ho hj
   exact hon ▸ hdep e he hb
  have hcl2 : ∀ i' j, (l.setIfInBounds i true).getD i' false = true → depB ops i' j = true → (l.setIfInBounds i true).getD j false = true := fun i' j h1 h2 => by
   rw [get_set l i j hil]
   by_cases e : i = j
   ·rw [if_pos e]
   ·rw [if_neg e]
    rw [get_set l i i' hil] at h1
    by_cases e2 : i = i'
    ·subst e2; exact hdj j h2
    ·rw [if_neg e2] at h1; exact G.cl i' j h1 h2
  refine wpOp_step ho fun K hK => ?_
  by_cases hic : i ∈ calls
  ·obtain ⟨p, hp⟩ := List.getElem?_of_mem hic
   have hcn : calls.Nodup := (List.nodup_append.1 hix).1
   have hkp : k = p := by
    have h1 : ¬ p < k := fun h => by rw [(G.cnt p i hp).2 h] at hnl; cases hnl
    cases p with
    | zero => omega
    | succ q =>
     have hq2 : q < calls.length := by have := (List.getElem?_eq_some_iff.1 hp).1; omega
     have h2 := List.all_eq_true.1 hchain q (List.mem_range.2 (by have := (List.getElem?_eq_some_iff.1 hp).1; omega))
     rw [List.getD_eq_getElem?_getD, hp, Option.getD_some] at h2
     have h3 := anc_of G.cl 3 i _ hdj h2
     rw [List.getD_eq_getElem?_getD, List.getElem?_eq_getElem hq2, Option.getD_some] at h3
     have h4 := (G.cnt q _ (List.getElem?_eq_getElem hq2)).1 h3
     omega
   subst hkp
   obtain ⟨hw, hrun⟩ := hc k i o d T hp ho hdv s x S sv mv G.fr G.kb G.sub G.df hb' hdp
   rw [if_pos hw]
   refine hrun K fun v S' sv' mv' x' hF' hkb hsub hv hT => hK _ _ ⟨k + 1, S', sv', mv', G.upd hnd hlt hstab hbp hil hdv (fun b hb => ⟨fun h => (hnotc b hb).1 (h ▸ hic), fun h => (hnotc b hb).2 (h ▸ hic)⟩) hcl2 (fun q c hqc => ?_) (by have := (List.getElem?_eq_some_iff.1 hp).1; omega) hF' hkb hsub hv (Or.inr ⟨Nat.lt_succ_self k, hkb, hsub⟩) hT⟩
   rw [get_set l i c hil]
   by_cases e : i = c
   ·subst e
    have : q = k := (List.getElem?_inj (List.getElem?_eq_some_iff.1 hqc).1 hcn).1 (hqc.trans hp.symm)
    subst this
    simp
   ·rw [if_neg e, G.cnt q c hqc]
    have : q ≠ k := fun h => e (by subst h; rw [hp] at hqc; exact Option.some.inj hqc)
    omega
  ·have hcnt' : ∀ (p c : Nat), calls[p]? = some c → ((l.setIfInBounds i true).getD c false = true ↔ p < k) := fun p c hpc => by
    rw [get_set l i c hil, if_neg (fun h => hic (by rw [h]; exact List.mem_of_getElem? hpc))]
    exact G.cnt p c hpc
   by_cases hia : ∃ b ∈ bxs, i = b.ia
   ·obtain ⟨b, hb, rfl⟩ := hia
    obtain ⟨hw, hrun⟩ := hal b hb o ho s x
    have hbs : b.sl < s.tmps.size := by rw [G.sz]; exact hlt _ (mem_slots (hbp b hb))
    have hget : (s.put (some b.sl) (.pointer (some ⟨x.heap.size, 0, none⟩))).tmps.getD b.sl undef = .pointer (some ⟨x.heap.size, 0, none⟩) := by rw [put_getD _ _ _ _ hbs, if_pos rfl]
    have hother : ∀ (j : Nat) (dj : Option Nat) (Tj : Kn), tab[j]? = some (dj, Tj) → j ≠ b.ia → valq (s.put (some b.sl) (.pointer (some ⟨x.heap.size, 0, none⟩))) dj = valq s dj := fun j dj Tj hj hne => by
     cases dj with
     | none => rfl
     | some e =>
      refine valq_put s (some b.sl) _ e fun e' he' => ?_
      obtain rfl := Option.some.inj he'
      exact ⟨hbs, fun h => hne (nodup_q tab hnd j b.ia e Tj Plc hj (by rw [hbp b hb, h]))⟩
    have hbel : Below x.heap.size x (x.alloc zw) := bal (Below.refl _ x) _
    have hsame : ∀ b' ∈ bxs, b'.ia = b.ia → b' = b := fun b' hb' h => bx_inj (List.nodup_append.1 hix).2.1 hb' hb h
    rw [if_pos hw]
    refine hrun K (hK _ _ ⟨k, S, sv, mv, hcnt', G.kle, G.fr.below hbel, G.kb.alloc _, G.sub, by rw [put_size]; exact G.sz, by rw [put_defers]; exact G.df, fun j hj => ?_, fun j dj Tj hj hl => ?_, fun b' hb' hl bl hbl => ?_, fun b' hb' hl => ?_, hcl2, fun b1 hb1 b2 hb2 hne hl1 hl2 => ?_⟩)
    ·rw [← G.out j hj]
     refine valq_put s (some b.sl) _ j fun e he => ?_
     obtain rfl := Option.some.inj he
     exact ⟨hbs, fun h => hj (h ▸ mem_slots (hbp b hb))⟩
    ·by_cases e : j = b.ia
     ·subst e
      rw [hbp b hb] at hj
      obtain ⟨rfl, rfl⟩ := Prod.mk.inj (Option.some.inj hj)
      exact ⟨x.heap.size, hget, fun hm => Nat.lt_irrefl _ (G.fr.footlt _ hm), by simp⟩
     ·rw [get_set l b.ia j hil, if_neg (fun h => e h.symm)] at hl
      rw [hother j dj Tj hj e]
      exact hstab j dj Tj hj (k, mv) (k, mv) S S _ x _ (G.kn j dj Tj hj hl) (Or.inl ⟨rfl, rfl, hbel⟩)
    ·by_cases e : b'.ia = b.ia
     ·obtain rfl := hsame b' hb' e
      rw [hget] at hbl
      injection hbl with hbl
      injection hbl with hbl
      injection hbl with hbl
      subst hbl
      have hns : l.getD b'.is false = false := by
       cases h : l.getD b'.is false
       ·rfl
       ·rw [G.bc b' hb' h] at hnl; cases hnl
      have hne2 : ¬ b'.ia = b'.is := fun h => by have h9 := (hba b' hb').2.1; rw [← h, hbp b' hb'] at h9; cases h9
      rw [get_set l b'.ia b'.is hil, if_neg hne2, hns]
      exact ⟨G.kb.size, row_lit4 (fun _ => 0) rfl rfl rfl rfl rfl⟩
     ·rw [get_set l b.ia b'.ia hil, if_neg (fun h => e h.symm)] at hl
      have h2 : (s.put (some b.sl) (.pointer (some ⟨x.heap.size, 0, none⟩))).tmps.getD b'.sl undef = s.tmps.getD b'.sl undef := hother b'.ia (some b'.sl) Plc (hbp b' hb') e
      rw [h2] at hbl
      have hne2 : ¬ b.ia = b'.is := fun h => by have := (hba b' hb').2.1; rw [← h, hbp b hb] at this; cases this
      rw [get_set l b.ia b'.is hil, if_neg hne2]
      exact ⟨(G.bx b' hb' hl bl hbl).1, (G.bx b' hb' hl bl hbl).2.alloc _⟩
    ·have hne2 : ¬ b.ia = b'.is := fun h => by have := (hba b' hb').2.1; rw [← h, hbp b hb] at this; cases this
     rw [get_set l b.ia b'.is hil, if_neg hne2] at hl
     rw [get_set l b.ia b'.ia hil]
     by_cases e : b.ia = b'.ia
     ·rw [if_pos e]
     ·rw [if_neg e]; exact G.bc b' hb' hl
    ·rw [get_set l b.ia b1.ia hil] at hl1
     rw [get_set l b.ia b2.ia hil] at hl2
     by_cases e1 : b.ia = b1.ia
     ·obtain rfl := hsame b1 hb1 e1.symm
      rw [if_neg hne] at hl2
      rw [hget, show (s.put (some b1.sl) (.pointer (some ⟨x.heap.size, 0, none⟩))).tmps.getD b2.sl undef = s.tmps.getD b2.sl undef from hother b2.ia (some b2.sl) Plc (hbp b2 hb2) (Ne.symm hne)]
      obtain ⟨b0, e0, _, h0⟩ := G.kn b2.ia (some b2.sl) Plc (hbp b2 hb2) hl2
      intro h
      have : Value.pointer (some ⟨x.heap.size, 0, none⟩) = Value.pointer (some ⟨b0, 0, none⟩) := h.trans e0
      injection this with this
      injection this with this
      injection this with this
      omega
     ·rw [if_neg e1] at hl1
      have h1 : (s.put (some b.sl) (.pointer (some ⟨x.heap.size, 0, none⟩))).tmps.getD b1.sl undef = s.tmps.getD b1.sl undef := hother b1.ia (some b1.sl) Plc (hbp b1 hb1) (fun h => e1 h.symm)
      by_cases e2 : b.ia = b2.ia
      ·obtain rfl := hsame b2 hb2 e2.symm
       rw [hget, h1]
       obtain ⟨b0, e0, _, h0⟩ := G.kn b1.ia (some b1.sl) Plc (hbp b1 hb1) hl1
       intro h
       have : Value.pointer (some ⟨b0, 0, none⟩) = Value.pointer (some ⟨x.heap.size, 0, none⟩) := e0.symm.trans h
       injection this with this
       injection this with this
       injection this with this
       omega
      ·rw [if_neg e2] at hl2
       rw [h1, show (s.put (some b.sl) (.pointer (some ⟨x.heap.size, 0, none⟩))).tmps.getD b2.sl undef = s.tmps.getD b2.sl undef from hother b2.ia (some b2.sl) Plc (hbp b2 hb2) (fun h => e2 h.symm)]
       exact G.bd b1 hb1 b2 hb2 hne hl1 hl2
   ·by_cases his : ∃ b ∈ bxs, i = b.is
    ·obtain ⟨b, hb, rfl⟩ := his
     obtain ⟨e, he, hbi, hon⟩ := depB_of ho (hba b hb).2.2
     have hla : l.getD b.ia false = true := hon ▸ hdep e he hbi
     obtain ⟨bl, e0, h0, h1⟩ := G.kn b.ia (some b.sl) Plc (hbp b hb) hla
     obtain ⟨g1, g2⟩ := G.bx b hb hla bl e0
     obtain ⟨hw, hrun⟩ := hst b hb o ho s x bl _ S (k, mv) e0 g2 hdp
     have hkb := put4_kb x bl b.n
     have hne : bxs ≠ [] := fun h => by rw [h] at hb; cases hb
     rw [if_pos hw]
     refine hrun K (hK _ _ ⟨k, S, sv, mv, hcnt', G.kle, G.fr.kb hkb (fun j hj => by simp; exact fun h => h0 (h ▸ hj)) (by simp; omega) (fun g N f hr hm => row_row_ne hr g2 tb1 (by simpa using hm)), G.kb.trans hkb (fun j hj => Or.inr (by simp at hj; rw [hj]; exact g1)), G.sub, G.sz, G.df, G.out, fun j dj Tj hj hl => ?_, fun b' hb' hl bl' hbl => ?_, fun b' hb' hl => ?_, hcl2, fun b1 hb1 b2 hb2 hne hl1 hl2 => ?_⟩)
     ·by_cases e2 : j = b.is
      ·subst e2
       rw [(hba b hb).2.1] at hj
       obtain ⟨rfl, rfl⟩ := Prod.mk.inj (Option.some.inj hj)
       rfl
      ·rw [get_set l b.is j hil, if_neg (fun h => e2 h.symm)] at hl
       exact hstabB hne j dj Tj hj _ S _ x _ (G.kn j dj Tj hj hl) hkb.size
     ·have hne2 : ¬ b.is = b'.ia := fun h => hia ⟨b', hb', h⟩
      rw [get_set l b.is b'.ia hil, if_neg hne2] at hl
      have hbl2 : s.tmps.getD b'.sl undef = .pointer (some ⟨bl', 0, none⟩) := hbl
      by_cases e2 : b'.ia = b.ia
      ·obtain rfl := bx_inj (List.nodup_append.1 hix).2.1 hb' hb e2
       have : bl = bl' := by
        have : Value.pointer (some ⟨bl, 0, none⟩) = Value.pointer (some ⟨bl', 0, none⟩) := e0.symm.trans hbl2
        injection this with this
        injection this with this
        injection this
       subst this
       rw [get_set l b'.is b'.is hil, if_pos rfl, if_pos rfl]
       exact ⟨g1, row_put4 g2 (limb b'.n) rfl rfl rfl rfl⟩
      ·have hsd := G.bd b' hb' b hb e2 hl hla
       obtain ⟨g3, g4⟩ := G.bx b' hb' hl bl' hbl2
       have hbb : bl' ≠ bl := fun h => hsd (by rw [hbl2, h]; exact e0.symm)
       have hne3 : ¬ b.is = b'.is := fun h => e2 (bx_injs (List.nodup_append.1 hix).2.1 hb' hb h.symm)
       rw [get_set l b.is b'.is hil, if_neg hne3]
       exact ⟨g3, hkb.row g4 (by simpa using hbb)⟩
     ·have hne2 : ¬ b.is = b'.ia := fun h => hia ⟨b', hb', h⟩
      rw [get_set l b.is b'.ia hil, if_neg hne2]
      rw [get_set l b.is b'.is hil] at hl
      by_cases e2 : b.is = b'.is
      ·rw [← bx_injs (List.nodup_append.1 hix).2.1 hb hb' e2]; exact hla
      ·rw [if_neg e2] at hl; exact G.bc b' hb' hl
     ·rw [get_set l b.is b1.ia hil, if_neg (fun h => hia ⟨b1, hb1, h⟩)] at hl1
      rw [get_set l b.is b2.ia hil, if_neg (fun h => hia ⟨b2, hb2, h⟩)] at hl2
      exact G.bd b1 hb1 b2 hb2 hne hl1 hl2
    ·have hnb : ∀ b ∈ bxs, i ≠ b.ia ∧ i ≠ b.is := fun b hb => ⟨fun h => hia ⟨b, hb, h⟩, fun h => his ⟨b, hb, h⟩⟩
     obtain ⟨hw, hrun⟩ := hq i o d T ho hdv hic hnb s x k S sv mv G.fr G.kb hb' hdp (fun p c hpc han => by
      refine Nat.le_of_not_lt fun hlt2 => ?_
      have hdone := (G.cnt p c hpc).2 hlt2
      have := anc_of G.cl 3 c i (fun j hj => G.cl c j hdone hj) han
      rw [this] at hnl
      cases hnl)
     rw [if_pos hw]
     refine hrun K fun v x' hbel hv hT => hK _ _ ⟨k, S, sv, mv, G.upd hnd hlt hstab hbp hil hdv hnb hcl2 hcnt' G.kle (G.fr.below hbel) (Kb.of_below hbel) (fun j hj => Or.inl hj) hv (Or.inl ⟨rfl, rfl, hbel⟩) hT⟩
 ·rintro l s x hls hall ⟨k, S, sv, mv, G⟩
  have hk : k = calls.length := by
   refine Nat.le_antisymm G.kle (Nat.le_of_not_lt fun h => ?_)
   have h1 := List.getElem?_eq_getElem h
   have h2 := (G.cnt k _ h1).1 (hall _ (of_decide_eq_true (List.all_eq_true.1 hcl _ (List.getElem_mem h))))
   omega
  subst hk
  have hmemt : ∀ p ∈ (slotsOf tab).map (fun d => (d, s.tmps.getD d undef)), p.1 < a.tmps.size := fun p hp => by
   obtain ⟨d, hd, rfl⟩ := List.mem_map.1 hp
   exact hlt d hd
  have hfst : ((slotsOf tab).map (fun d => (d, s.tmps.getD d undef))).map Prod.fst = slotsOf tab := by simp [List.map_map, Function.comp_def]
  have e : s = fill a (zipq tab (tab.map fun p => valq s p.1)) := by
   rw [zipq_map]
   refine act_ext (by rw [fill_size, G.sz]) (by rw [fill_defers, G.df]) fun k _ => ?_
   by_cases hk : k ∈ slotsOf tab
   ·rw [fill_in _ a k (s.tmps.getD k undef) hmemt (by rw [hfst]; exact hnd) (List.mem_map.2 ⟨k, hk, rfl⟩)]
   ·rw [G.out k hk, fill_out _ a k hmemt fun p hp e => hk (by obtain ⟨d, hd, rfl⟩ := List.mem_map.1 hp; exact e ▸ hd)]
  have hat : ∀ (i : Nat) (d : Option Nat) (T : Kn), tab[i]? = some (d, T) → (tab.map fun p => valq s p.1).getD i undef = valq s d := fun i d T h => by rw [List.getD_eq_getElem?_getD, List.getElem?_map, h]; rfl
  have hli : ∀ (i : Nat) (d : Option Nat) (T : Kn), tab[i]? = some (d, T) → l.getD i false = true := fun i d T h => hall i (by rw [← hlen]; exact (List.getElem?_eq_some_iff.1 h).1)
  have h := hdone (tab.map fun p => valq s p.1) x S sv mv G.fr G.kb G.sub (by simp) (fun i d T h => by rw [hat i d T h]; exact G.kn i d T h (hli i d T h)) (fun b hb bl hbl => by
   rw [hat b.ia (some b.sl) Plc (hbp b hb)] at hbl
   have h2 := G.bx b hb (hli _ _ _ (hbp b hb)) bl hbl
   rw [if_pos (hli _ _ _ (hba b hb).2.1)] at h2
   exact h2)
  rwa [← e] at h
end
section
open Go.RowKit
variable {ops : Array Oper} {Q : Exit → Act → World → Prop}
abbrev Kp := Nat → Value → World → Prop
def kn (T : Kp) : Kn := fun c _ v x => T c.1 v x
abbrev Tp := List (Option Nat × Kp)
def tbp (t : Tp) : Tb := t.map fun p => (p.1, kn p.2)
theorem tbp_at {t : Tp} {i : Nat} {d : Option Nat} {T : Kn} (h : (tbp t)[i]? = some (d, T)) : ∃ U, t[i]? = some (d, U) ∧ T = kn U := by
 unfold tbp at h
 rw [List.getElem?_map] at h
 cases e : t[i]? with
 | none => rw [e] at h; cases h
 | some p =>
  rw [e] at h
  obtain ⟨h1, h2⟩ := Prod.mk.inj (Option.some.inj h)
  exact ⟨p.2, by rw [← h1], h2.symm⟩
theorem tbp_mk {t : Tp} {i : Nat} {d : Option Nat} {U : Kp} (h : t[i]? = some (d, U)) : (tbp t)[i]? = some (d, kn U) := by
 unfold tbp
 rw [List.getElem?_map, h]
 rfl
structure GP (ops : Array Oper) (Ph : Nat → World → Prop) (tab : Tb) (calls : List Nat) (a : Act) (l : Array Bool) (s : Act) (x : World) (k : Nat) : Prop where
 cnt : ∀ (p c : Nat), calls[p]? = some c → (l.getD c false = true ↔ p < k)
 kle : k ≤ calls.length
 ph : Ph k x
 sz : s.tmps.size = a.tmps.size
 df : s.defers = a.defers
 out : ∀ j, j ∉ slotsOf tab → s.tmps.getD j undef = a.tmps.getD j undef
 kn : ∀ (i : Nat) (d : Option Nat) (T : Kn), tab[i]? = some (d, T) → l.getD i false = true → T (k, undef) [] (valq s d) x
 cl : ∀ i j, l.getD i false = true → depB ops i j = true → l.getD j false = true
theorem GP.upd {Ph : Nat → World → Prop} {tab : Tb} {calls : List Nat} {a : Act} {l : Array Bool} {s : Act} {x : World} {k : Nat}
  (G : GP ops Ph tab calls a l s x k) (hnd : (slotsOf tab).Nodup) (hlt : ∀ d, d ∈ slotsOf tab → d < a.tmps.size)
  {i : Nat} {d : Option Nat} {T : Kn} {v : Value} {x' : World} {k' : Nat} (hi : i < l.size) (hdv : tab[i]? = some (d, T))
  (hcl : ∀ i' j, (l.setIfInBounds i true).getD i' false = true → depB ops i' j = true → (l.setIfInBounds i true).getD j false = true) (hcnt : ∀ (p c : Nat), calls[p]? = some c → ((l.setIfInBounds i true).getD c false = true ↔ p < k')) (hkle : k' ≤ calls.length) (hF : Ph k' x') (hv : d = none → v = undef) (hT : T (k', undef) [] v x')
  (hst : ∀ (j : Nat) (dj : Option Nat) (Tj : Kn), tab[j]? = some (dj, Tj) → j ≠ i → ∀ u, Tj (k, undef) [] u x → Tj (k', undef) [] u x') : GP ops Ph tab calls a (l.setIfInBounds i true) (s.put d v) x' k' := by
 have hds : ∀ e, d = some e → e < s.tmps.size := fun e he => by rw [G.sz]; exact hlt e (mem_slots (by rw [hdv, he]))
 have hother : ∀ (j : Nat) (dj : Option Nat) (Tj : Kn), tab[j]? = some (dj, Tj) → j ≠ i → valq (s.put d v) dj = valq s dj := fun j dj Tj hj hne => by
  cases dj with
  | none => rfl
  | some e =>
   refine valq_put s d v e fun e' he' => ⟨hds e' he', fun h => ?_⟩
   subst h
   exact hne (nodup_q tab hnd j i e' Tj T hj (by rw [hdv, he']))
 refine ⟨hcnt, hkle, hF, ?_, ?_, fun j hj => ?_, fun j dj Tj hj hl => ?_, hcl⟩
 ·cases d with
  | none => exact G.sz
  | some e => rw [put_size]; exact G.sz
 ·cases d with
  | none => exact G.df
  | some e => rw [put_defers]; exact G.df
 ·rw [← G.out j hj]
  exact valq_put s d v j fun e he => ⟨hds e he, fun h => hj (h ▸ mem_slots (by rw [hdv, he]))⟩
 ·by_cases e : j = i
  ·subst e
   rw [hdv] at hj
   obtain ⟨rfl, rfl⟩ := Prod.mk.inj (Option.some.inj hj)
   cases d with
   | none => rw [hv rfl] at hT; exact hT
   | some e =>
    have : valq (s.put (some e) v) (some e) = v := by
     show (s.put (some e) v).tmps.getD e undef = v
     rw [put_getD _ _ _ _ (hds e rfl), if_pos rfl]
    rw [this]; exact hT
  ·rw [get_set l i j hi, if_neg (fun h => e h.symm)] at hl
   rw [hother j dj Tj hj e]
   exact hst j dj Tj hj e _ (G.kn j dj Tj hj hl)
theorem wp_region_ph {id : Nat} {a : Act} {w : World} (hm : Tryz.prog.follows .mixedOrders = true) (hdown : downB ops = true) (Ph : Nat → World → Prop) (Rel : Nat → World → World → Prop) (tab : Tp) (calls : List Nat)
  (hlen : tab.length = ops.size) (hnd : decide (slotsOf (tbp tab)).Nodup = true) (hlt0 : ((slotsOf (tbp tab)).all fun d => decide (d < a.tmps.size)) = true) (h0 : Ph 0 w.drew)
  (bas : List (Nat × Value)) (hbas : ∀ p ∈ bas, a.tmps.getD p.1 undef = p.2) (hapart : (bas.all fun p => !(slotsOf (tbp tab)).contains p.1) = true)
  (hchain : ((List.range (calls.length - 1)).all fun q => ancB ops 3 (calls.getD (q + 1) 0) (calls.getD q 0)) = true) (hcn : decide calls.Nodup = true) (hcl : (calls.all fun c => decide (c < ops.size)) = true)
  (hstab : ∀ (j : Nat) (d : Option Nat) (T : Kp), tab[j]? = some (d, T) → ∀ p v x x', calls[p]? ≠ some j → p < calls.length → Ph p x → Rel p x x' → T p v x → T (p + 1) v x')
  (hpure : ∀ (i : Nat) (o : Oper) (d : Option Nat) (T : Kp), ops[i]? = some o → tab[i]? = some (d, T) → i ∉ calls → ∀ k s x, k ≤ calls.length → (∀ q c, calls[q]? = some c → ancB ops 3 i c = true → q < k) → (∀ q c, calls[q]? = some c → ancB ops 3 c i = true → k ≤ q) → Ph k x → s.defers = a.defers → (∀ p ∈ bas, s.tmps.getD p.1 undef = p.2) →
   (∀ e ∈ o.after, Region.binds .any e = true → ∀ (d' : Option Nat) (T' : Kp), tab[e.on]? = some (d', T') → T' k (valq s d') x) →
   (Region.wanted o (yielded ops s.tmps) = true ∧ ∀ K : Act → World → Prop, (∀ v, (d = none → v = undef) → T k v x → K (s.put d v) x) → Oper.wp Tryz.prog o s x K Q))
  (himp : ∀ (p i : Nat) (o : Oper) (d : Option Nat) (T : Kp), calls[p]? = some i → ops[i]? = some o → tab[i]? = some (d, T) → ∀ s x, Ph p x → s.defers = a.defers → (∀ p ∈ bas, s.tmps.getD p.1 undef = p.2) →
   (∀ e ∈ o.after, Region.binds .any e = true → ∀ (d' : Option Nat) (T' : Kp), tab[e.on]? = some (d', T') → T' p (valq s d') x) →
   (Region.wanted o (yielded ops s.tmps) = true ∧ ∀ K : Act → World → Prop, (∀ v x', Ph (p + 1) x' → Rel p x x' → (d = none → v = undef) → T (p + 1) v x' → K (s.put d v) x') → Oper.wp Tryz.prog o s x K Q))
  (hdone : ∀ (vs : List Value) x, Ph calls.length x → vs.length = tab.length → (∀ (i : Nat) (d : Option Nat) (T : Kp), tab[i]? = some (d, T) → T calls.length (vs.getD i undef) x) → Q .normal (fill a (zipq (tbp tab) vs)) x) :
  (Code.region id ops true).wp Tryz.prog Q a w := by
 have hnd := of_decide_eq_true hnd
 have hcn := of_decide_eq_true hcn
 have hlt : ∀ d, d ∈ slotsOf (tbp tab) → d < a.tmps.size := fun d hd => of_decide_eq_true (List.all_eq_true.1 hlt0 d hd)
 have hap : ∀ p ∈ bas, p.1 ∉ slotsOf (tbp tab) := fun p hp hm => by
  have := List.all_eq_true.1 hapart p hp
  simp only [Bool.not_eq_true', List.contains_eq_mem, decide_eq_false_iff_not] at this
  exact this hm
 have hlen2 : (tbp tab).length = ops.size := by unfold tbp; simpa using hlen
 refine wp_region_st hm hdown (fun l s x => ∃ k, GP ops Ph (tbp tab) calls a l s x k) ?_ ?_ ?_
 ·have hrep : ∀ j, (Array.replicate ops.size false).getD j false = false := fun j => by
   rw [Array.getD_eq_getD_getElem?, Array.getElem?_replicate]
   split <;> rfl
  exact ⟨0, ⟨fun p c _ => (by rw [hrep]; simp), Nat.zero_le _, h0, rfl, rfl, fun _ _ => rfl, fun i d T _ hl => (by rw [hrep] at hl; cases hl), fun i j hl => (by rw [hrep] at hl; cases hl)⟩⟩
 ·rintro l i o hls ho hnl hdep s x ⟨k, G⟩
  have hio : i < ops.size := (Array.getElem?_eq_some_iff.1 ho).1
  have hil : i < l.size := by omega
  obtain ⟨⟨d, U⟩, hdu⟩ : ∃ p, tab[i]? = some p := ⟨_, List.getElem?_eq_getElem (by omega)⟩
  have hdv := tbp_mk hdu
  have hb' : ∀ p ∈ bas, s.tmps.getD p.1 undef = p.2 := fun p hp => (G.out p.1 (hap p hp)).trans (hbas p hp)
  have hdp : ∀ e ∈ o.after, Region.binds .any e = true → ∀ (d' : Option Nat) (T' : Kp), tab[e.on]? = some (d', T') → T' k (valq s d') x := fun e he hb d' T' h => G.kn _ _ _ (tbp_mk h) (hdep e he hb)
  have hdj : ∀ j, depB ops i j = true → l.getD j false = true := fun j hj => by
   obtain ⟨e, he, hb, hon⟩ := depB_of ho hj
   exact hon ▸ hdep e he hb
  have hcl2 : ∀ i' j, (l.setIfInBounds i true).getD i' false = true → depB ops i' j = true → (l.setIfInBounds i true).getD j false = true := fun i' j h1 h2 => by
   rw [get_set l i j hil]
   by_cases e : i = j
   ·rw [if_pos e]
   ·rw [if_neg e]
    rw [get_set l i i' hil] at h1
    by_cases e2 : i = i'
    ·subst e2; exact hdj j h2
    ·rw [if_neg e2] at h1; exact G.cl i' j h1 h2
  refine wpOp_step ho fun K hK => ?_
  by_cases hic : i ∈ calls
  ·obtain ⟨p, hp⟩ := List.getElem?_of_mem hic
   have hkp : k = p := by
    have h1 : ¬ p < k := fun h => by rw [(G.cnt p i hp).2 h] at hnl; cases hnl
    cases p with
    | zero => omega
    | succ q =>
     have hq2 : q < calls.length := by have := (List.getElem?_eq_some_iff.1 hp).1; omega
     have h2 := List.all_eq_true.1 hchain q (List.mem_range.2 (by have := (List.getElem?_eq_some_iff.1 hp).1; omega))
     rw [List.getD_eq_getElem?_getD, hp, Option.getD_some] at h2
     have h3 := anc_of G.cl 3 i _ hdj h2
     rw [List.getD_eq_getElem?_getD, List.getElem?_eq_getElem hq2, Option.getD_some] at h3
     have h4 := (G.cnt q _ (List.getElem?_eq_getElem hq2)).1 h3
     omega
   subst hkp
   have hkl := (List.getElem?_eq_some_iff.1 hp).1
   obtain ⟨hw, hrun⟩ := himp k i o d U hp ho hdu s x G.ph G.df hb' hdp
   rw [if_pos hw]
   refine hrun K fun v x' hF' hr hv hT => hK _ _ ⟨k + 1, G.upd hnd hlt hil hdv hcl2 (fun q c hqc => ?_) (by omega) hF' hv hT (fun j dj Tj hj hne u hu => ?_)⟩
   ·rw [get_set l i c hil]
    by_cases e : i = c
    ·subst e
     have : q = k := (List.getElem?_inj (List.getElem?_eq_some_iff.1 hqc).1 hcn).1 (hqc.trans hp.symm)
     subst this
     simp
    ·rw [if_neg e, G.cnt q c hqc]
     have : q ≠ k := fun h => e (by subst h; rw [hp] at hqc; exact Option.some.inj hqc)
     omega
   ·obtain ⟨Uj, h1, rfl⟩ := tbp_at hj
    exact hstab j dj Uj h1 k u x x' (fun h => hne (Option.some.inj (h.symm.trans hp))) hkl G.ph hr hu
  ·have hcnt' : ∀ (p c : Nat), calls[p]? = some c → ((l.setIfInBounds i true).getD c false = true ↔ p < k) := fun p c hpc => by
    rw [get_set l i c hil, if_neg (fun h => hic (by rw [h]; exact List.mem_of_getElem? hpc))]
    exact G.cnt p c hpc
   obtain ⟨hw, hrun⟩ := hpure i o d U ho hdu hic k s x G.kle (fun q c hq ha => (G.cnt q c hq).1 (anc_of G.cl 3 i c hdj ha)) (fun q c hq ha => Nat.le_of_not_lt fun hlt => by
    have h1 := (G.cnt q c hq).2 hlt
    rw [anc_of G.cl 3 c i (fun j hj => G.cl c j h1 hj) ha] at hnl
    cases hnl) G.ph G.df hb' hdp
   rw [if_pos hw]
   exact hrun K fun v hv hT => hK _ _ ⟨k, G.upd hnd hlt hil hdv hcl2 hcnt' G.kle G.ph hv hT (fun j dj Tj hj hne u hu => hu)⟩
 ·rintro l s x hls hall ⟨k, G⟩
  have hk : k = calls.length := by
   refine Nat.le_antisymm G.kle (Nat.le_of_not_lt fun h => ?_)
   have h1 := List.getElem?_eq_getElem h
   have h2 := (G.cnt k _ h1).1 (hall _ (of_decide_eq_true (List.all_eq_true.1 hcl _ (List.getElem_mem h))))
   omega
  subst hk
  have hmemt : ∀ p ∈ (slotsOf (tbp tab)).map (fun d => (d, s.tmps.getD d undef)), p.1 < a.tmps.size := fun p hp => by
   obtain ⟨d, hd, rfl⟩ := List.mem_map.1 hp
   exact hlt d hd
  have hfst : ((slotsOf (tbp tab)).map (fun d => (d, s.tmps.getD d undef))).map Prod.fst = slotsOf (tbp tab) := by simp [List.map_map, Function.comp_def]
  have e : s = fill a (zipq (tbp tab) ((tbp tab).map fun p => valq s p.1)) := by
   rw [zipq_map]
   refine act_ext (by rw [fill_size, G.sz]) (by rw [fill_defers, G.df]) fun k _ => ?_
   by_cases hk : k ∈ slotsOf (tbp tab)
   ·rw [fill_in _ a k (s.tmps.getD k undef) hmemt (by rw [hfst]; exact hnd) (List.mem_map.2 ⟨k, hk, rfl⟩)]
   ·rw [G.out k hk, fill_out _ a k hmemt fun p hp e => hk (by obtain ⟨d, hd, rfl⟩ := List.mem_map.1 hp; exact e ▸ hd)]
  have hat : ∀ (i : Nat) (d : Option Nat) (T : Kp), tab[i]? = some (d, T) → ((tbp tab).map fun p => valq s p.1).getD i undef = valq s d := fun i d T h => by rw [List.getD_eq_getElem?_getD, List.getElem?_map, tbp_mk h]; rfl
  have hli : ∀ (i : Nat) (d : Option Nat) (T : Kp), tab[i]? = some (d, T) → l.getD i false = true := fun i d T h => hall i (by rw [← hlen]; exact (List.getElem?_eq_some_iff.1 h).1)
  have h := hdone ((tbp tab).map fun p => valq s p.1) x G.ph (by simp [tbp]) (fun i d T h => by rw [hat i d T h]; exact G.kn i d _ (tbp_mk h) (hli i d T h))
  rwa [← e] at h
end
section
open Go.RowKit
set_option maxRecDepth 100000
variable {s : Act} {x : World} {pos : String} {af : Array Edge} {g : Option (Nat × Bool)} {K : Act → World → Prop} {Q : Exit → Act → World → Prop}
theorem st_f_trail {t d b : Nat} {ty : TypeId} (he : s.tmps.getD t undef = .pointer (some ⟨b, 0, none⟩)) (hK : K (s.put (some d) (.pointer (some ⟨b, 0, none⟩))) x) :
  Oper.wp Tryz.prog ⟨some d, .fieldAddr 137 (.tmp t) 0, ty, pos, af, g⟩ s x K Q := by
 have he2 : s.eval (.tmp t) = .pointer (some ⟨b, 0, none⟩) := he
 go_simp
 exact hK
theorem st_f_code {t d b : Nat} {ty : TypeId} (he : s.tmps.getD t undef = .pointer (some ⟨b, 0, none⟩)) (hK : K (s.put (some d) (.pointer (some ⟨b, 1, none⟩))) x) :
  Oper.wp Tryz.prog ⟨some d, .fieldAddr 137 (.tmp t) 1, ty, pos, af, g⟩ s x K Q := by
 have he2 : s.eval (.tmp t) = .pointer (some ⟨b, 0, none⟩) := he
 go_simp
 exact hK
theorem st_f_self {t d b : Nat} {ty : TypeId} (he : s.tmps.getD t undef = .pointer (some ⟨b, 0, none⟩)) (hK : K (s.put (some d) (.pointer (some ⟨b, 3, none⟩))) x) :
  Oper.wp Tryz.prog ⟨some d, .fieldAddr 137 (.tmp t) 3, ty, pos, af, g⟩ s x K Q := by
 have he2 : s.eval (.tmp t) = .pointer (some ⟨b, 0, none⟩) := he
 go_simp
 exact hK
theorem st_f_stack {t d b : Nat} {ty : TypeId} (he : s.tmps.getD t undef = .pointer (some ⟨b, 0, none⟩)) (hK : K (s.put (some d) (.pointer (some ⟨b, 19, none⟩))) x) :
  Oper.wp Tryz.prog ⟨some d, .fieldAddr 137 (.tmp t) 10, ty, pos, af, g⟩ s x K Q := by
 have he2 : s.eval (.tmp t) = .pointer (some ⟨b, 0, none⟩) := he
 go_simp
 exact hK
theorem st_f_next {t d b : Nat} {ty : TypeId} (he : s.tmps.getD t undef = .pointer (some ⟨b, 0, none⟩)) (hK : K (s.put (some d) (.pointer (some ⟨b, 23, none⟩))) x) :
  Oper.wp Tryz.prog ⟨some d, .fieldAddr 137 (.tmp t) 14, ty, pos, af, g⟩ s x K Q := by
 have he2 : s.eval (.tmp t) = .pointer (some ⟨b, 0, none⟩) := he
 go_simp
 exact hK
theorem st_load1 {t d : Nat} {T ty : TypeId} {ad : Addr} {v : Value} (hA : ∀ w, (isAgg T).run Tryz.prog w = .ok false w) (he : s.tmps.getD t undef = .pointer (some ad)) (hc : x.cell? ad = some v) (hK : K (s.put (some d) v) x) :
  Oper.wp Tryz.prog ⟨some d, .load T (.tmp t), ty, pos, af, g⟩ s x K Q := by
 have he2 : s.eval (.tmp t) = .pointer (some ad) := he
 have hl : ∀ P, (load ad).run P x = .ok v x := fun P => by simp [go_sem, hc]
 unfold Oper.wp
 simp only [execOp, he2, Instr.loadAt, Instr.sureAddr, loadVar, Sem.run_bind, Sem.run_pure, Result.andThen_ok, hA, Bool.false_eq_true, if_false, hl]
 exact hK
theorem st_loadW {t d b off n : Nat} {ty : TypeId} (he : s.tmps.getD t undef = .pointer (some ⟨b, off, none⟩)) (c0 : x.cell? ⟨b, off, none⟩ = some (.int .u64 (limb n 0))) (c1 : x.cell? ⟨b, off + 1, none⟩ = some (.int .u64 (limb n 1))) (c2 : x.cell? ⟨b, off + 2, none⟩ = some (.int .u64 (limb n 2))) (c3 : x.cell? ⟨b, off + 3, none⟩ = some (.int .u64 (limb n 3))) (hK : K (s.put (some d) (wv n)) x) :
  Oper.wp Tryz.prog ⟨some d, .load 24 (.tmp t), ty, pos, af, g⟩ s x K Q := by
 have he2 : s.eval (.tmp t) = .pointer (some ⟨b, off, none⟩) := he
 go_simp
 exact hK
def badF : FS := ⟨undef, ⟨#[]⟩, undef, 0, 0, 0, ⟨#[]⟩, 100001, false, 0, [], [0], ⟨#[]⟩, 0, 0, false, 0, ⟨#[]⟩⟩
theorem no_bad {base fb : Nat} {S : List Nat} {sv mv : Value} {w : World} (h : Fr base fb badF S sv mv w) : False := by
 have := h.gal
 unfold badF at this
 simp at this
def nextF {α : Type} (r : Option (α × FS)) : FS := match r with
 | some (_, F) => F
 | none => badF
def gotN (r : Option (Nat × FS)) : Nat := match r with
 | some (n, _) => n
 | none => 0
theorem st_out {f d base fb : Nat} {xs : Array Operand} {vs : Array Value} {A : Array TypeId} {ty : TypeId} {α : Type} {r : Option (α × FS)} {val : α → Value} {S : List Nat} (hf : Own f) (hv : #[] ++ xs.map s.eval ++ #[] = vs) (hc : Calls Tryz.prog f vs x (Out r val base fb S x))
  (hpan : ∀ u pv x', r = none → Kb S x x' → Q (.panic [{ v := .iface u pv, recovered := false }]) s x')
  (hK : ∀ a F' S' sv' mv' x', r = some (a, F') → Fr base fb F' S' sv' mv' x' → Kb S x x' → (∀ j ∈ S', j ∈ S ∨ x.heap.size ≤ j) → K (s.put (some d) (val a)) x') :
  Oper.wp Tryz.prog ⟨some d, .call ⟨.value (.func f), xs, A⟩, ty, pos, af, g⟩ s x K Q := by
 refine st_callP hf hv hc fun e x' ho => ?_
 unfold Out at ho
 split at ho
 ·obtain ⟨h1, S', sv', mv', h2, h3, h4⟩ := ho
  exact Or.inl ⟨_, h1, hK _ _ S' sv' mv' x' rfl h2 h3 h4⟩
 ·obtain ⟨⟨u, pv, rfl⟩, h2⟩ := ho
  exact Or.inr ⟨_, rfl, hpan u pv x' rfl h2⟩
theorem own_pop : Own 257 := fun _ _ => by kernel_rfl
theorem own_push : Own 259 := fun _ _ => by kernel_rfl
theorem own_small : Own 262 := fun _ _ => by kernel_rfl
theorem own_piece : Own 261 := fun _ _ => by kernel_rfl
theorem own_fromBytes : Own 260 := fun _ _ => by kernel_rfl
structure Same (F F' : FS) : Prop where
 trail : F'.trail = F.trail
 code : F'.code = F.code
 jd : F'.jd = F.jd
 self : F'.self = F.self
 caller : F'.caller = F.caller
 value : F'.value = F.value
 data : F'.data = F.data
 ro : F'.ro = F.ro
 ret : F'.ret = F.ret
 pc : F'.pc = F.pc
 nx : F'.nx = F.nx
 mem : F'.mem = F.mem
 gas : F'.gas = F.gas
 depth : F'.depth = F.depth
theorem Same.refl (F : FS) : Same F F := ⟨rfl, rfl, rfl, rfl, rfl, rfl, rfl, rfl, rfl, rfl, rfl, rfl, rfl, rfl⟩
theorem bad_gas : 100000 < badF.gas := by decide
theorem same_pop {F G : FS} (h : 100000 < G.gas ∨ Same F G) : 100000 < (nextF (popF G)).gas ∨ Same F (nextF (popF G)) := by
 unfold popF
 split
 ·exact Or.inl bad_gas
 ·rcases h with h | h
  ·exact Or.inl h
  ·exact Or.inr ⟨h.trail, h.code, h.jd, h.self, h.caller, h.value, h.data, h.ro, h.ret, h.pc, h.nx, h.mem, h.gas, h.depth⟩
theorem same_push {F G : FS} (h : 100000 < G.gas ∨ Same F G) (n : Nat) : 100000 < (nextF (pushF n G)).gas ∨ Same F (nextF (pushF n G)) := by
 unfold pushF
 split
 ·exact Or.inl bad_gas
 ·rcases h with h | h
  ·exact Or.inl h
  ·exact Or.inr ⟨h.trail, h.code, h.jd, h.self, h.caller, h.value, h.data, h.ro, h.ret, h.pc, h.nx, h.mem, h.gas, h.depth⟩
def Pc (l : List UInt8) : Kn := fun _ S v x => ∃ b, Bys x b v l ∧ ∀ k, v.ownBlock = some k → k ∉ S
theorem pc_stable (l : List UInt8) : Stable (Pc l) := stable_of fun _ _ S S' v x x' ⟨b, h1, h2⟩ _ hk hs => ⟨b, hk.own h1 h2, fun k hk2 hm => (hs k hm).elim (h2 k hk2) (fun h => by have := (h1.lt k hk2).2; omega)⟩
def Ln (n : Nat) : Kn := fun _ _ v _ => ∃ ad c, v = .slice ad n c
theorem ln_stable (n : Nat) : Stable (Ln n) := stable_of fun _ _ _ _ _ _ _ h _ _ _ => h
theorem st_lenS {t d : Nat} {ty : TypeId} {str : ByteArray} (he : s.tmps.getD t undef = .string str) (hK : K (s.put (some d) (.int .i64 (str.size : Int))) x) :
  Oper.wp Tryz.prog ⟨some d, .call ⟨.builtin .len, #[.tmp t], #[9]⟩, ty, pos, af, g⟩ s x K Q := by
 have he2 : s.eval (.tmp t) = .string str := he
 go_simp
 exact hK
theorem ltq5 {i : Nat} (h : i < 5) : i = 0 ∨ i = 1 ∨ i = 2 ∨ i = 3 ∨ i = 4 := by omega
theorem lenq5 {vs : List Value} (h : vs.length = 5) : ∃ v0 v1 v2 v3 v4 : Value, vs = [v0, v1, v2, v3, v4] := by
 match vs, h with
 | [v0, v1, v2, v3, v4], _ => exact ⟨v0, v1, v2, v3, v4, rfl⟩
theorem ltq6 {i : Nat} (h : i < 6) : i = 0 ∨ i = 1 ∨ i = 2 ∨ i = 3 ∨ i = 4 ∨ i = 5 := by omega
theorem lenq6 {vs : List Value} (h : vs.length = 6) : ∃ v0 v1 v2 v3 v4 v5 : Value, vs = [v0, v1, v2, v3, v4, v5] := by
 match vs, h with
 | [v0, v1, v2, v3, v4, v5], _ => exact ⟨v0, v1, v2, v3, v4, v5, rfl⟩
theorem ltq9 {i : Nat} (h : i < 9) : i = 0 ∨ i = 1 ∨ i = 2 ∨ i = 3 ∨ i = 4 ∨ i = 5 ∨ i = 6 ∨ i = 7 ∨ i = 8 := by omega
theorem lenq9 {vs : List Value} (h : vs.length = 9) : ∃ v0 v1 v2 v3 v4 v5 v6 v7 v8 : Value, vs = [v0, v1, v2, v3, v4, v5, v6, v7, v8] := by
 match vs, h with
 | [v0, v1, v2, v3, v4, v5, v6, v7, v8], _ => exact ⟨v0, v1, v2, v3, v4, v5, v6, v7, v8, rfl⟩
theorem ltq10 {i : Nat} (h : i < 10) : i = 0 ∨ i = 1 ∨ i = 2 ∨ i = 3 ∨ i = 4 ∨ i = 5 ∨ i = 6 ∨ i = 7 ∨ i = 8 ∨ i = 9 := by omega
theorem lenq10 {vs : List Value} (h : vs.length = 10) : ∃ v0 v1 v2 v3 v4 v5 v6 v7 v8 v9 : Value, vs = [v0, v1, v2, v3, v4, v5, v6, v7, v8, v9] := by
 match vs, h with
 | [v0, v1, v2, v3, v4, v5, v6, v7, v8, v9], _ => exact ⟨v0, v1, v2, v3, v4, v5, v6, v7, v8, v9, rfl⟩
theorem ltq11 {i : Nat} (h : i < 11) : i = 0 ∨ i = 1 ∨ i = 2 ∨ i = 3 ∨ i = 4 ∨ i = 5 ∨ i = 6 ∨ i = 7 ∨ i = 8 ∨ i = 9 ∨ i = 10 := by omega
theorem lenq11 {vs : List Value} (h : vs.length = 11) : ∃ v0 v1 v2 v3 v4 v5 v6 v7 v8 v9 v10 : Value, vs = [v0, v1, v2, v3, v4, v5, v6, v7, v8, v9, v10] := by
 match vs, h with
 | [v0, v1, v2, v3, v4, v5, v6, v7, v8, v9, v10], _ => exact ⟨v0, v1, v2, v3, v4, v5, v6, v7, v8, v9, v10, rfl⟩
theorem ltq12 {i : Nat} (h : i < 12) : i = 0 ∨ i = 1 ∨ i = 2 ∨ i = 3 ∨ i = 4 ∨ i = 5 ∨ i = 6 ∨ i = 7 ∨ i = 8 ∨ i = 9 ∨ i = 10 ∨ i = 11 := by omega
theorem lenq12 {vs : List Value} (h : vs.length = 12) : ∃ v0 v1 v2 v3 v4 v5 v6 v7 v8 v9 v10 v11 : Value, vs = [v0, v1, v2, v3, v4, v5, v6, v7, v8, v9, v10, v11] := by
 match vs, h with
 | [v0, v1, v2, v3, v4, v5, v6, v7, v8, v9, v10, v11], _ => exact ⟨v0, v1, v2, v3, v4, v5, v6, v7, v8, v9, v10, v11, rfl⟩
theorem ltq13 {i : Nat} (h : i < 13) : i = 0 ∨ i = 1 ∨ i = 2 ∨ i = 3 ∨ i = 4 ∨ i = 5 ∨ i = 6 ∨ i = 7 ∨ i = 8 ∨ i = 9 ∨ i = 10 ∨ i = 11 ∨ i = 12 := by omega
theorem lenq13 {vs : List Value} (h : vs.length = 13) : ∃ v0 v1 v2 v3 v4 v5 v6 v7 v8 v9 v10 v11 v12 : Value, vs = [v0, v1, v2, v3, v4, v5, v6, v7, v8, v9, v10, v11, v12] := by
 match vs, h with
 | [v0, v1, v2, v3, v4, v5, v6, v7, v8, v9, v10, v11, v12], _ => exact ⟨v0, v1, v2, v3, v4, v5, v6, v7, v8, v9, v10, v11, v12, rfl⟩
theorem ltq14 {i : Nat} (h : i < 14) : i = 0 ∨ i = 1 ∨ i = 2 ∨ i = 3 ∨ i = 4 ∨ i = 5 ∨ i = 6 ∨ i = 7 ∨ i = 8 ∨ i = 9 ∨ i = 10 ∨ i = 11 ∨ i = 12 ∨ i = 13 := by omega
theorem lenq14 {vs : List Value} (h : vs.length = 14) : ∃ v0 v1 v2 v3 v4 v5 v6 v7 v8 v9 v10 v11 v12 v13 : Value, vs = [v0, v1, v2, v3, v4, v5, v6, v7, v8, v9, v10, v11, v12, v13] := by
 match vs, h with
 | [v0, v1, v2, v3, v4, v5, v6, v7, v8, v9, v10, v11, v12, v13], _ => exact ⟨v0, v1, v2, v3, v4, v5, v6, v7, v8, v9, v10, v11, v12, v13, rfl⟩
theorem ltq15 {i : Nat} (h : i < 15) : i = 0 ∨ i = 1 ∨ i = 2 ∨ i = 3 ∨ i = 4 ∨ i = 5 ∨ i = 6 ∨ i = 7 ∨ i = 8 ∨ i = 9 ∨ i = 10 ∨ i = 11 ∨ i = 12 ∨ i = 13 ∨ i = 14 := by omega
theorem lenq15 {vs : List Value} (h : vs.length = 15) : ∃ v0 v1 v2 v3 v4 v5 v6 v7 v8 v9 v10 v11 v12 v13 v14 : Value, vs = [v0, v1, v2, v3, v4, v5, v6, v7, v8, v9, v10, v11, v12, v13, v14] := by
 match vs, h with
 | [v0, v1, v2, v3, v4, v5, v6, v7, v8, v9, v10, v11, v12, v13, v14], _ => exact ⟨v0, v1, v2, v3, v4, v5, v6, v7, v8, v9, v10, v11, v12, v13, v14, rfl⟩
theorem ltq16 {i : Nat} (h : i < 16) : i = 0 ∨ i = 1 ∨ i = 2 ∨ i = 3 ∨ i = 4 ∨ i = 5 ∨ i = 6 ∨ i = 7 ∨ i = 8 ∨ i = 9 ∨ i = 10 ∨ i = 11 ∨ i = 12 ∨ i = 13 ∨ i = 14 ∨ i = 15 := by omega
theorem lenq16 {vs : List Value} (h : vs.length = 16) : ∃ v0 v1 v2 v3 v4 v5 v6 v7 v8 v9 v10 v11 v12 v13 v14 v15 : Value, vs = [v0, v1, v2, v3, v4, v5, v6, v7, v8, v9, v10, v11, v12, v13, v14, v15] := by
 match vs, h with
 | [v0, v1, v2, v3, v4, v5, v6, v7, v8, v9, v10, v11, v12, v13, v14, v15], _ => exact ⟨v0, v1, v2, v3, v4, v5, v6, v7, v8, v9, v10, v11, v12, v13, v14, v15, rfl⟩
theorem ltq18 {i : Nat} (h : i < 18) : i = 0 ∨ i = 1 ∨ i = 2 ∨ i = 3 ∨ i = 4 ∨ i = 5 ∨ i = 6 ∨ i = 7 ∨ i = 8 ∨ i = 9 ∨ i = 10 ∨ i = 11 ∨ i = 12 ∨ i = 13 ∨ i = 14 ∨ i = 15 ∨ i = 16 ∨ i = 17 := by omega
theorem lenq18 {vs : List Value} (h : vs.length = 18) : ∃ v0 v1 v2 v3 v4 v5 v6 v7 v8 v9 v10 v11 v12 v13 v14 v15 v16 v17 : Value, vs = [v0, v1, v2, v3, v4, v5, v6, v7, v8, v9, v10, v11, v12, v13, v14, v15, v16, v17] := by
 match vs, h with
 | [v0, v1, v2, v3, v4, v5, v6, v7, v8, v9, v10, v11, v12, v13, v14, v15, v16, v17], _ => exact ⟨v0, v1, v2, v3, v4, v5, v6, v7, v8, v9, v10, v11, v12, v13, v14, v15, v16, v17, rfl⟩
theorem ltq19 {i : Nat} (h : i < 19) : i = 0 ∨ i = 1 ∨ i = 2 ∨ i = 3 ∨ i = 4 ∨ i = 5 ∨ i = 6 ∨ i = 7 ∨ i = 8 ∨ i = 9 ∨ i = 10 ∨ i = 11 ∨ i = 12 ∨ i = 13 ∨ i = 14 ∨ i = 15 ∨ i = 16 ∨ i = 17 ∨ i = 18 := by omega
theorem lenq19 {vs : List Value} (h : vs.length = 19) : ∃ v0 v1 v2 v3 v4 v5 v6 v7 v8 v9 v10 v11 v12 v13 v14 v15 v16 v17 v18 : Value, vs = [v0, v1, v2, v3, v4, v5, v6, v7, v8, v9, v10, v11, v12, v13, v14, v15, v16, v17, v18] := by
 match vs, h with
 | [v0, v1, v2, v3, v4, v5, v6, v7, v8, v9, v10, v11, v12, v13, v14, v15, v16, v17, v18], _ => exact ⟨v0, v1, v2, v3, v4, v5, v6, v7, v8, v9, v10, v11, v12, v13, v14, v15, v16, v17, v18, rfl⟩
end
section
open Go.RowKit Go.Maps
set_option maxRecDepth 100000
def Cp (c : Value) : Kp := fun _ v _ => v = c
theorem ltq4 {i : Nat} (h : i < 4) : i = 0 ∨ i = 1 ∨ i = 2 ∨ i = 3 := by omega
theorem ltq3 {i : Nat} (h : i < 3) : i = 0 ∨ i = 1 ∨ i = 2 := by omega
theorem ltq2 {i : Nat} (h : i < 2) : i = 0 ∨ i = 1 := by omega
theorem add_block (a : Addr) (j : Nat) : (a.add j).block = a.block := by
 unfold Addr.add
 split <;> rfl
section
variable {s : Act} {x : World} {pos : String} {af : Array Edge} {g : Option (Nat × Bool)} {K : Act → World → Prop} {Q : Exit → Act → World → Prop}
theorem st_one_ch {kind at' key r t d : Nat} {ty : TypeId} (he : s.tmps.getD t undef = .agg #[.int .i64 (kind : Int), .int .u64 (limb at' 0), .int .u64 (limb at' 1), .int .u64 (limb at' 2), .int .u64 (limb at' 3), .int .u64 (limb key 0), .int .u64 (limb key 1), .int .u64 (limb key 2), .int .u64 (limb key 3), .int .u64 (limb r 0), .int .u64 (limb r 1), .int .u64 (limb r 2), .int .u64 (limb r 3)]) (hK : K (s.put (some d) (.slice (some ⟨x.heap.size, 0, none⟩) 1 1)) (x.alloc (.cells #[.int .i64 (kind : Int), .int .u64 (limb at' 0), .int .u64 (limb at' 1), .int .u64 (limb at' 2), .int .u64 (limb at' 3), .int .u64 (limb key 0), .int .u64 (limb key 1), .int .u64 (limb key 2), .int .u64 (limb key 3), .int .u64 (limb r 0), .int .u64 (limb r 1), .int .u64 (limb r 2), .int .u64 (limb r 3)] 220))) :
  Oper.wp Tryz.prog ⟨some d, .buildSlice 129 1 #[(0, .tmp t)], ty, pos, af, g⟩ s x K Q := by
 have he2 : s.eval (.tmp t) = .agg #[.int .i64 (kind : Int), .int .u64 (limb at' 0), .int .u64 (limb at' 1), .int .u64 (limb at' 2), .int .u64 (limb at' 3), .int .u64 (limb key 0), .int .u64 (limb key 1), .int .u64 (limb key 2), .int .u64 (limb key 3), .int .u64 (limb r 0), .int .u64 (limb r 1), .int .u64 (limb r 2), .int .u64 (limb r 3)] := he
 have he3 : s.tmps[t]?.getD undef = .agg #[.int .i64 (kind : Int), .int .u64 (limb at' 0), .int .u64 (limb at' 1), .int .u64 (limb at' 2), .int .u64 (limb at' 3), .int .u64 (limb key 0), .int .u64 (limb key 1), .int .u64 (limb key 2), .int .u64 (limb key 3), .int .u64 (limb r 0), .int .u64 (limb r 1), .int .u64 (limb r 2), .int .u64 (limb r 3)] := by rw [← Array.getD_eq_getD_getElem?]; exact he
 go_simp
 exact hK
theorem st_store_ch {t1 t2 b off n c : Nat} {ad : Option Addr} {u : Value} {ty : TypeId} (h1 : s.tmps.getD t1 undef = .pointer (some ⟨b, off, none⟩)) (h2 : s.tmps.getD t2 undef = .slice ad n c) (hc : x.cell? ⟨b, off, none⟩ = some u) (hf : x.frozen? ⟨b, off, none⟩ = false) (hK : K (s.put none undef) (x.setCell ⟨b, off, none⟩ (.slice ad n c))) :
  Oper.wp Tryz.prog ⟨none, .store 129 (.tmp t1) (.tmp t2), ty, pos, af, g⟩ s x K Q := by
 have e1 : s.eval (.tmp t1) = .pointer (some ⟨b, off, none⟩) := h1
 have e2 : s.eval (.tmp t2) = .slice ad n c := h2
 go_simp
 exact hK
theorem st_append {P : Program} {t1 t2 d : Nat} {ty t : TypeId} (base : Nat) (e : TypeId) (i : TypeInfo) (z : Value) (size bytes : Nat) (ht : P.underlying t = some (.slice e)) (hi : P.info? e = some i) (hz : i.zero = some z)
  (hsize : i.size = size) (hby : i.bytes = bytes) (hzs : z.cells.size = size) (hsz : 0 < size)
  (v : Value) (n : Nat) (xs : List Value) (hs : s.tmps.getD t1 undef = v) (hown : x.ownsRow base e size v n xs)
  (ad : Addr) (m c : Nat) (news : List Value) (hx : s.tmps.getD t2 undef = .slice (some ad) m c) (hl : news.length = m * size) (hnews : ∀ j u, news[j]? = some u → x.cell? (ad.add j) = some u) (h1 : ∀ u ∈ news, u.oneCell' = true)
  (h63 : n + m ≤ maxLen) (hbytes : (n + m) * bytes ≤ 140737488355328) (hbase : base ≤ x.heap.size)
  (h : ∀ v' w', w'.ownsRow base e size v' (n + m) (xs ++ news) → x.grownBy w' v.ownBlock → Fresh x v v' → K (s.put (some d) v') w') :
  Oper.wp P ⟨some d, .call ⟨.builtin .append, #[.tmp t1, .tmp t2], #[t, t]⟩, ty, pos, af, none⟩ s x K Q := by
 have h2 := step_append_own (P := P) (ops := #[]) (o := ⟨some d, .call ⟨.builtin .append, #[.tmp t1, .tmp t2], #[t, t]⟩, ty, pos, af, none⟩) (a := s) (w := x) (K := K) (Q := Q) (E := True) rfl (.tmp t1) (.tmp t2) t rfl base e i z size bytes ht hi hz hsize hby hzs hsz v n xs hs hown ad m c news hx hl hnews h1 h63 hbytes hbase h
 rw [if_pos (want_none rfl)] at h2
 exact h2
end
def CellAt (x : World) (cb kind at' key : Nat) : Prop := x.cell? ⟨cb, 0, none⟩ = some (.int .i64 (kind : Int)) ∧ x.cell? ⟨cb, 1, none⟩ = some (.int .u64 (limb at' 0)) ∧ x.cell? ⟨cb, 2, none⟩ = some (.int .u64 (limb at' 1)) ∧ x.cell? ⟨cb, 3, none⟩ = some (.int .u64 (limb at' 2)) ∧ x.cell? ⟨cb, 4, none⟩ = some (.int .u64 (limb at' 3)) ∧
   x.cell? ⟨cb, 5, none⟩ = some (.int .u64 (limb key 0)) ∧ x.cell? ⟨cb, 6, none⟩ = some (.int .u64 (limb key 1)) ∧ x.cell? ⟨cb, 7, none⟩ = some (.int .u64 (limb key 2)) ∧ x.cell? ⟨cb, 8, none⟩ = some (.int .u64 (limb key 3))
theorem lt_cell {x : World} {b o : Nat} {v : Value} (h : x.cell? ⟨b, o, none⟩ = some v) : b < x.heap.size := by
 cases e : x.heap[b]? with
 | none => simp [World.cell?, e] at h
 | some ob => exact (Array.getElem?_eq_some_iff.1 e).1
theorem CellAt.below {w x : World} {cb kind at' key : Nat} (h : CellAt w cb kind at' key) (hb : Below w.heap.size w x) : CellAt x cb kind at' key := by
 obtain ⟨q0, q1, q2, q3, q4, q5, q6, q7, q8⟩ := h
 have hl : cb < w.heap.size := lt_cell q0
 have e : ∀ i, x.cell? ⟨cb, i, none⟩ = w.cell? ⟨cb, i, none⟩ := fun i => hb.cell hl
 exact ⟨(e 0).trans q0, (e 1).trans q1, (e 2).trans q2, (e 3).trans q3, (e 4).trans q4, (e 5).trans q5, (e 6).trans q6, (e 7).trans q7, (e 8).trans q8⟩
def PhS (base tb : Nat) (V : TV) (c' : List Chg) (w : World) : Nat → World → Prop
 | 0, x => Below w.heap.size w x
 | 1, x => Below w.heap.size w x
 | 2, x => Below w.heap.size w x
 | 3, x => Kb V.cv.ownBlock.toList w x
 | _, x => ∃ v', x.ownsRow base 220 13 v' c'.length (chL c') ∧ Fresh w V.cv v' ∧ Up V.cv.ownBlock.toList tb 2 v' w x
theorem phs_low {base tb : Nat} {V : TV} {c' : List Chg} {w x : World} {k : Nat} (h : PhS base tb V c' w k x) (hk : k ≤ 2) : Below w.heap.size w x := by
 match k, hk, h with
 | 0, _, h => exact h
 | 1, _, h => exact h
 | 2, _, h => exact h
def RelS (tb : Nat) (V : TV) : Nat → World → World → Prop
 | 0, x, x' => Below x.heap.size x x'
 | 1, x, x' => Below x.heap.size x x'
 | 2, x, x' => True
 | _, x, x' => Kb [tb] x x'
def OneL (c : Chg) : Kp := fun p v x => ∃ q, v = .slice (some ⟨q, 0, none⟩) 1 1 ∧ (p ≤ 2 → q < x.heap.size ∧ ∀ (j : Nat) u, (chC c)[j]? = some u → x.cell? ((⟨q, 0, none⟩ : Addr).add j) = some u)
def NewL (base : Nat) (V : TV) (c' : List Chg) (w : World) : Kp := fun _ v x => x.ownsRow base 220 13 v c'.length (chL c') ∧ Fresh w V.cv v
theorem cv_tb {base tb : Nat} {T : TS} {V : TV} {w : World} (h : Tr base tb T V w) : tb ∉ V.cv.ownBlock.toList := fun hm => row_own_ne h.row h.ch tTr_Ch tb (by simpa using hm) rfl
section
variable {base tb : Nat} {T : TS} {V : TV} {kind at' key r cb : Nat} {s : Act} {x : World} {K : Act → World → Prop} {Q : Exit → Act → World → Prop} {ty1 : TypeId} {po1 : String} {af1 : Array Edge} {gd1 : Option (Nat × Bool)}
theorem set_r1_o0 (e0 : s.tmps.getD 0 undef = .pointer (some ⟨tb, 0, none⟩))  (hK : K (s.put (some 6) (.pointer (some ⟨tb, 0, none⟩))) x) :
  Oper.wp Tryz.prog ⟨some 6, .move (.tmp 0), ty1, po1, af1, gd1⟩ s x K Q := by
 have f0 : s.eval (.tmp 0) = _ := e0
 go_simp
 exact hK
theorem set_r1_o1 (e0 : s.tmps.getD 0 undef = .pointer (some ⟨tb, 0, none⟩))  (hK : K (s.put (some 7) (.pointer (some ⟨tb, 0, none⟩))) x) :
  Oper.wp Tryz.prog ⟨some 7, .move (.tmp 0), ty1, po1, af1, gd1⟩ s x K Q := by
 have f0 : s.eval (.tmp 0) = _ := e0
 go_simp
 exact hK
theorem set_r1_o2 (e7 : s.tmps.getD 7 undef = .pointer (some ⟨tb, 0, none⟩))  (hK : K (s.put (some 8) (.pointer (some ⟨tb, 0, none⟩))) x) :
  Oper.wp Tryz.prog ⟨some 8, .nilCheck (.tmp 7), ty1, po1, af1, gd1⟩ s x K Q := by
 have f7 : s.eval (.tmp 7) = _ := e7
 go_simp
 exact hK
theorem set_r1_o3 (e8 : s.tmps.getD 8 undef = .pointer (some ⟨tb, 0, none⟩))  (hK : K (s.put (some 9) (.pointer (some ⟨tb, 2, none⟩))) x) :
  Oper.wp Tryz.prog ⟨some 9, .fieldAddr 131 (.tmp 8) 2, ty1, po1, af1, gd1⟩ s x K Q := by
 have f8 : s.eval (.tmp 8) = _ := e8
 go_simp
 exact hK
theorem set_r1_o4 (e9 : s.tmps.getD 9 undef = .pointer (some ⟨tb, 2, none⟩)) (k2 : x.cell? ⟨tb, 2, none⟩ = some V.cv) (hK : K (s.put (some 10) (V.cv)) x) :
  Oper.wp Tryz.prog ⟨some 10, .load 129 (.tmp 9), ty1, po1, af1, gd1⟩ s x K Q := by
 have f9 : s.eval (.tmp 9) = _ := e9
 go_simp
 exact hK
theorem set_r1_o5 (e4 : s.tmps.getD 4 undef = .pointer (some ⟨cb, 0, none⟩)) (q0 : x.cell? ⟨cb, 0, none⟩ = some (.int .i64 (kind : Int))) (q1 : x.cell? ⟨cb, 1, none⟩ = some (.int .u64 (limb at' 0))) (q2 : x.cell? ⟨cb, 2, none⟩ = some (.int .u64 (limb at' 1))) (q3 : x.cell? ⟨cb, 3, none⟩ = some (.int .u64 (limb at' 2))) (q4 : x.cell? ⟨cb, 4, none⟩ = some (.int .u64 (limb at' 3))) (q5 : x.cell? ⟨cb, 5, none⟩ = some (.int .u64 (limb key 0))) (q6 : x.cell? ⟨cb, 6, none⟩ = some (.int .u64 (limb key 1))) (q7 : x.cell? ⟨cb, 7, none⟩ = some (.int .u64 (limb key 2))) (q8 : x.cell? ⟨cb, 8, none⟩ = some (.int .u64 (limb key 3))) (hK : K (s.put (some 11) (.agg #[.int .i64 (kind : Int), .int .u64 (limb at' 0), .int .u64 (limb at' 1), .int .u64 (limb at' 2), .int .u64 (limb at' 3), .int .u64 (limb key 0), .int .u64 (limb key 1), .int .u64 (limb key 2), .int .u64 (limb key 3)])) x) :
  Oper.wp Tryz.prog ⟨some 11, .load 217 (.tmp 4), ty1, po1, af1, gd1⟩ s x K Q := by
 have f4 : s.eval (.tmp 4) = _ := e4
 go_simp
 exact hK
theorem set_r1_o6 (e0 : s.tmps.getD 0 undef = .pointer (some ⟨tb, 0, none⟩))  (hK : K (s.put (some 12) (.pointer (some ⟨tb, 0, none⟩))) x) :
  Oper.wp Tryz.prog ⟨some 12, .move (.tmp 0), ty1, po1, af1, gd1⟩ s x K Q := by
 have f0 : s.eval (.tmp 0) = _ := e0
 go_simp
 exact hK
theorem set_r1_o7 (e4 : s.tmps.getD 4 undef = .pointer (some ⟨cb, 0, none⟩)) (q0 : x.cell? ⟨cb, 0, none⟩ = some (.int .i64 (kind : Int))) (q1 : x.cell? ⟨cb, 1, none⟩ = some (.int .u64 (limb at' 0))) (q2 : x.cell? ⟨cb, 2, none⟩ = some (.int .u64 (limb at' 1))) (q3 : x.cell? ⟨cb, 3, none⟩ = some (.int .u64 (limb at' 2))) (q4 : x.cell? ⟨cb, 4, none⟩ = some (.int .u64 (limb at' 3))) (q5 : x.cell? ⟨cb, 5, none⟩ = some (.int .u64 (limb key 0))) (q6 : x.cell? ⟨cb, 6, none⟩ = some (.int .u64 (limb key 1))) (q7 : x.cell? ⟨cb, 7, none⟩ = some (.int .u64 (limb key 2))) (q8 : x.cell? ⟨cb, 8, none⟩ = some (.int .u64 (limb key 3))) (hK : K (s.put (some 13) (.agg #[.int .i64 (kind : Int), .int .u64 (limb at' 0), .int .u64 (limb at' 1), .int .u64 (limb at' 2), .int .u64 (limb at' 3), .int .u64 (limb key 0), .int .u64 (limb key 1), .int .u64 (limb key 2), .int .u64 (limb key 3)])) x) :
  Oper.wp Tryz.prog ⟨some 13, .load 217 (.tmp 4), ty1, po1, af1, gd1⟩ s x K Q := by
 have f4 : s.eval (.tmp 4) = _ := e4
 go_simp
 exact hK
theorem set_r1_o9 (e11 : s.tmps.getD 11 undef = .agg #[.int .i64 (kind : Int), .int .u64 (limb at' 0), .int .u64 (limb at' 1), .int .u64 (limb at' 2), .int .u64 (limb at' 3), .int .u64 (limb key 0), .int .u64 (limb key 1), .int .u64 (limb key 2), .int .u64 (limb key 3)]) (e14 : s.tmps.getD 14 undef = wv r)  (hK : K (s.put (some 15) (.agg #[.int .i64 (kind : Int), .int .u64 (limb at' 0), .int .u64 (limb at' 1), .int .u64 (limb at' 2), .int .u64 (limb at' 3), .int .u64 (limb key 0), .int .u64 (limb key 1), .int .u64 (limb key 2), .int .u64 (limb key 3), .int .u64 (limb r 0), .int .u64 (limb r 1), .int .u64 (limb r 2), .int .u64 (limb r 3)])) x) :
  Oper.wp Tryz.prog ⟨some 15, .build 220 #[(0, .tmp 11), (1, .tmp 14)], ty1, po1, af1, gd1⟩ s x K Q := by
 have f11 : s.eval (.tmp 11) = _ := e11
 have g11 : s.tmps[11]?.getD undef = .agg #[.int .i64 (kind : Int), .int .u64 (limb at' 0), .int .u64 (limb at' 1), .int .u64 (limb at' 2), .int .u64 (limb at' 3), .int .u64 (limb key 0), .int .u64 (limb key 1), .int .u64 (limb key 2), .int .u64 (limb key 3)] := by rw [← Array.getD_eq_getD_getElem?]; exact e11
 have f14 : s.eval (.tmp 14) = _ := e14
 have g14 : s.tmps[14]?.getD undef = wv r := by rw [← Array.getD_eq_getD_getElem?]; exact e14
 go_simp
 exact hK
theorem set_r1_o12 (e6 : s.tmps.getD 6 undef = .pointer (some ⟨tb, 0, none⟩))  (hK : K (s.put (some 18) (.pointer (some ⟨tb, 0, none⟩))) x) :
  Oper.wp Tryz.prog ⟨some 18, .nilCheck (.tmp 6), ty1, po1, af1, gd1⟩ s x K Q := by
 have f6 : s.eval (.tmp 6) = _ := e6
 go_simp
 exact hK
theorem set_r1_o13 (e18 : s.tmps.getD 18 undef = .pointer (some ⟨tb, 0, none⟩))  (hK : K (s.put (some 19) (.pointer (some ⟨tb, 2, none⟩))) x) :
  Oper.wp Tryz.prog ⟨some 19, .fieldAddr 131 (.tmp 18) 2, ty1, po1, af1, gd1⟩ s x K Q := by
 have f18 : s.eval (.tmp 18) = _ := e18
 go_simp
 exact hK
set_option maxHeartbeats 4000000 in
theorem set_r1 {base tb : Nat} {T : TS} {V : TV} {kind at' key r cb : Nat} {Q : Exit → Act → World → Prop} (a : Act) (w : World) (h : Tr base tb T V w) (hl : T.ch.length < 1000000000) (hget : ∀ x, Below w.heap.size w x → Calls Tryz.prog 202 #[.pointer (some ⟨tb, 0, none⟩), .agg #[.int .i64 (kind : Int), .int .u64 (limb at' 0), .int .u64 (limb at' 1), .int .u64 (limb at' 2), .int .u64 (limb at' 3), .int .u64 (limb key 0), .int .u64 (limb key 1), .int .u64 (limb key 2), .int .u64 (limb key 3)]] x fun e w' => e = .returned (wv r) ∧ Below x.heap.size x w') (hbx : CellAt w cb kind at' key) (h0 : Below w.heap.size w w.drew) (hsz : decide (19 < a.tmps.size) = true) (c0 : a.tmps.getD 0 undef = .pointer (some ⟨tb, 0, none⟩)) (c4 : a.tmps.getD 4 undef = .pointer (some ⟨cb, 0, none⟩))
  (hok : ∀ (x : World) (z10 : Value) (z11 : Value), (PhS base tb V (T.ch ++ [⟨kind, at', key, r⟩]) w) 4 x → (OneL ⟨kind, at', key, r⟩) 4 z10 x → (NewL base V (T.ch ++ [⟨kind, at', key, r⟩]) w) 4 z11 x → Q .normal (fill a [(6, .pointer (some ⟨tb, 0, none⟩)), (7, .pointer (some ⟨tb, 0, none⟩)), (8, .pointer (some ⟨tb, 0, none⟩)), (9, .pointer (some ⟨tb, 2, none⟩)), (10, V.cv), (11, .agg #[.int .i64 (kind : Int), .int .u64 (limb at' 0), .int .u64 (limb at' 1), .int .u64 (limb at' 2), .int .u64 (limb at' 3), .int .u64 (limb key 0), .int .u64 (limb key 1), .int .u64 (limb key 2), .int .u64 (limb key 3)]), (12, .pointer (some ⟨tb, 0, none⟩)), (13, .agg #[.int .i64 (kind : Int), .int .u64 (limb at' 0), .int .u64 (limb at' 1), .int .u64 (limb at' 2), .int .u64 (limb at' 3), .int .u64 (limb key 0), .int .u64 (limb key 1), .int .u64 (limb key 2), .int .u64 (limb key 3)]), (14, wv r), (15, .agg #[.int .i64 (kind : Int), .int .u64 (limb at' 0), .int .u64 (limb at' 1), .int .u64 (limb at' 2), .int .u64 (limb at' 3), .int .u64 (limb key 0), .int .u64 (limb key 1), .int .u64 (limb key 2), .int .u64 (limb key 3), .int .u64 (limb r 0), .int .u64 (limb r 1), .int .u64 (limb r 2), .int .u64 (limb r 3)]), (16, z10), (17, z11), (18, .pointer (some ⟨tb, 0, none⟩)), (19, .pointer (some ⟨tb, 2, none⟩))]) x) :
  (Code.region 1 #[⟨some 6, .move (.tmp 0), 96, "trail.go:71", #[], none⟩, ⟨some 7, .move (.tmp 0), 96, "trail.go:71", #[], none⟩, ⟨some 8, .nilCheck (.tmp 7), 0, "trail.go:71", #[⟨1, .data⟩], none⟩, ⟨some 9, .fieldAddr 131 (.tmp 8) 2, 0, "trail.go:71", #[⟨2, .data⟩], none⟩, ⟨some 10, .load 129 (.tmp 9), 129, "trail.go:71", #[⟨3, .data⟩], none⟩, ⟨some 11, .load 217 (.tmp 4), 217, "trail.go:71", #[], none⟩, ⟨some 12, .move (.tmp 0), 96, "trail.go:71", #[], none⟩, ⟨some 13, .load 217 (.tmp 4), 217, "trail.go:71", #[], none⟩, ⟨some 14, .call ⟨.value (.func 202), #[.tmp 12, .tmp 13], #[96, 217]⟩, 24, "trail.go:71", #[⟨6, .data⟩, ⟨7, .data⟩], none⟩, ⟨some 15, .build 220 #[(0, .tmp 11), (1, .tmp 14)], 220, "trail.go:71", #[⟨5, .data⟩, ⟨8, .data⟩], none⟩, ⟨some 16, .buildSlice 129 1 #[(0, .tmp 15)], 129, "trail.go:71", #[⟨9, .data⟩], none⟩, ⟨some 17, .call ⟨.builtin Builtin.append, #[.tmp 10, .tmp 16], #[129, 129]⟩, 129, "trail.go:71", #[⟨4, .data⟩, ⟨10, .data⟩, ⟨8, .chain⟩], none⟩, ⟨some 18, .nilCheck (.tmp 6), 0, "trail.go:71", #[⟨0, .data⟩, ⟨0, .phase⟩, ⟨1, .phase⟩, ⟨2, .phase⟩, ⟨3, .phase⟩, ⟨4, .phase⟩, ⟨5, .phase⟩, ⟨6, .phase⟩, ⟨7, .phase⟩, ⟨8, .phase⟩, ⟨9, .phase⟩, ⟨10, .phase⟩, ⟨11, .phase⟩], none⟩, ⟨some 19, .fieldAddr 131 (.tmp 18) 2, 0, "trail.go:71", #[⟨12, .data⟩, ⟨0, .phase⟩, ⟨1, .phase⟩, ⟨2, .phase⟩, ⟨3, .phase⟩, ⟨4, .phase⟩, ⟨5, .phase⟩, ⟨6, .phase⟩, ⟨7, .phase⟩, ⟨8, .phase⟩, ⟨9, .phase⟩, ⟨10, .phase⟩, ⟨11, .phase⟩], none⟩, ⟨none, .store 129 (.tmp 19) (.tmp 17), 0, "trail.go:71", #[⟨13, .data⟩, ⟨11, .data⟩, ⟨11, .chain⟩, ⟨0, .phase⟩, ⟨1, .phase⟩, ⟨2, .phase⟩, ⟨3, .phase⟩, ⟨4, .phase⟩, ⟨5, .phase⟩, ⟨6, .phase⟩, ⟨7, .phase⟩, ⟨8, .phase⟩, ⟨9, .phase⟩, ⟨10, .phase⟩, ⟨11, .phase⟩], none⟩] true).wp Tryz.prog Q a w := by
 have hsz := of_decide_eq_true hsz
 refine wp_region_ph (by kernel_rfl) (by kernel_rfl) (PhS base tb V (T.ch ++ [⟨kind, at', key, r⟩]) w) (RelS tb V) [(some 6, Cp (.pointer (some ⟨tb, 0, none⟩))), (some 7, Cp (.pointer (some ⟨tb, 0, none⟩))), (some 8, Cp (.pointer (some ⟨tb, 0, none⟩))), (some 9, Cp (.pointer (some ⟨tb, 2, none⟩))), (some 10, Cp (V.cv)), (some 11, Cp (.agg #[.int .i64 (kind : Int), .int .u64 (limb at' 0), .int .u64 (limb at' 1), .int .u64 (limb at' 2), .int .u64 (limb at' 3), .int .u64 (limb key 0), .int .u64 (limb key 1), .int .u64 (limb key 2), .int .u64 (limb key 3)])), (some 12, Cp (.pointer (some ⟨tb, 0, none⟩))), (some 13, Cp (.agg #[.int .i64 (kind : Int), .int .u64 (limb at' 0), .int .u64 (limb at' 1), .int .u64 (limb at' 2), .int .u64 (limb at' 3), .int .u64 (limb key 0), .int .u64 (limb key 1), .int .u64 (limb key 2), .int .u64 (limb key 3)])), (some 14, Cp (wv r)), (some 15, Cp (.agg #[.int .i64 (kind : Int), .int .u64 (limb at' 0), .int .u64 (limb at' 1), .int .u64 (limb at' 2), .int .u64 (limb at' 3), .int .u64 (limb key 0), .int .u64 (limb key 1), .int .u64 (limb key 2), .int .u64 (limb key 3), .int .u64 (limb r 0), .int .u64 (limb r 1), .int .u64 (limb r 2), .int .u64 (limb r 3)])), (some 16, OneL ⟨kind, at', key, r⟩), (some 17, NewL base V (T.ch ++ [⟨kind, at', key, r⟩]) w), (some 18, Cp (.pointer (some ⟨tb, 0, none⟩))), (some 19, Cp (.pointer (some ⟨tb, 2, none⟩))), (none, fun _ _ _ => True)] [8, 10, 11, 14] rfl (by rfl) ?_ ?_ [(0, .pointer (some ⟨tb, 0, none⟩)), (4, .pointer (some ⟨cb, 0, none⟩))] ?_ (by rfl) (by kernel_rfl) (by rfl) (by rfl) ?_ ?_ ?_ ?_
 ·refine List.all_eq_true.2 fun d hd => decide_eq_true ?_
  have hd2 : d ∈ ([6, 7, 8, 9, 10, 11, 12, 13, 14, 15, 16, 17, 18, 19] : List Nat) := hd
  simp at hd2
  omega
 ·exact h0
 ·intro p hp
  simp only [List.mem_cons, List.not_mem_nil, or_false] at hp
  rcases hp with rfl | rfl
  ·exact c0
  ·exact c4
 ·intro j d T hj p v x x' hne hpl hph hrel ht
  have hjl : j < 15 := (List.getElem?_eq_some_iff.1 hj).1
  rcases ltq15 hjl with rfl | rfl | rfl | rfl | rfl | rfl | rfl | rfl | rfl | rfl | rfl | rfl | rfl | rfl | rfl
  ·obtain ⟨rfl, rfl⟩ := pk hj
   exact ht
  ·obtain ⟨rfl, rfl⟩ := pk hj
   exact ht
  ·obtain ⟨rfl, rfl⟩ := pk hj
   exact ht
  ·obtain ⟨rfl, rfl⟩ := pk hj
   exact ht
  ·obtain ⟨rfl, rfl⟩ := pk hj
   exact ht
  ·obtain ⟨rfl, rfl⟩ := pk hj
   exact ht
  ·obtain ⟨rfl, rfl⟩ := pk hj
   exact ht
  ·obtain ⟨rfl, rfl⟩ := pk hj
   exact ht
  ·obtain ⟨rfl, rfl⟩ := pk hj
   exact ht
  ·obtain ⟨rfl, rfl⟩ := pk hj
   exact ht
  ·obtain ⟨rfl, rfl⟩ := pk hj
   obtain ⟨q, e, hq⟩ := ht
   have hp2 : p ≠ 1 := fun e2 => hne (by rw [e2]; rfl)
   refine ⟨q, e, fun hp3 => ?_⟩
   obtain rfl : p = 0 := by omega
   obtain ⟨h1, h2⟩ := hq (by omega)
   have hB : Below x.heap.size x x' := hrel
   exact ⟨Nat.lt_of_lt_of_le h1 hB.size, fun j u hj => (hB.cell (by rw [add_block]; exact h1)).trans (h2 j u hj)⟩
  ·obtain ⟨rfl, rfl⟩ := pk hj
   have hp2 : p ≠ 2 := fun e2 => hne (by rw [e2]; rfl)
   rcases ltq4 hpl with rfl | rfl | rfl | rfl
   ·exact ⟨ownsRow_below ht.1 hrel, ht.2⟩
   ·exact ⟨ownsRow_below ht.1 hrel, ht.2⟩
   ·exact absurd rfl hp2
   ·have hk : Kb V.cv.ownBlock.toList w x := hph
    have hr := hk.row h.row (cv_tb h)
    exact ⟨Kb.own (S := [tb]) hrel ht.1 (fun k hk2 => by simpa using row_own_ne hr ht.1 tTr_Ch k hk2), ht.2⟩
  ·obtain ⟨rfl, rfl⟩ := pk hj
   exact ht
  ·obtain ⟨rfl, rfl⟩ := pk hj
   exact ht
  ·obtain ⟨rfl, rfl⟩ := pk hj
   exact ht
 ·intro i o d T ho ht hic k s x hk hlo hhi hph hdf hb hdep
  have hi : i < 15 := (Array.getElem?_eq_some_iff.1 ho).1
  rcases ltq15 hi with rfl | rfl | rfl | rfl | rfl | rfl | rfl | rfl | rfl | rfl | rfl | rfl | rfl | rfl | rfl
  ·obtain rfl := sj ho
   obtain ⟨rfl, rfl⟩ := pk ht
   refine ⟨want_none rfl, fun K hK => ?_⟩
   exact set_r1_o0 (hb (0, .pointer (some ⟨tb, 0, none⟩)) (List.Mem.head _))  (hK _ nn1 rfl)
  ·obtain rfl := sj ho
   obtain ⟨rfl, rfl⟩ := pk ht
   refine ⟨want_none rfl, fun K hK => ?_⟩
   exact set_r1_o1 (hb (0, .pointer (some ⟨tb, 0, none⟩)) (List.Mem.head _))  (hK _ nn1 rfl)
  ·obtain rfl := sj ho
   obtain ⟨rfl, rfl⟩ := pk ht
   refine ⟨want_none rfl, fun K hK => ?_⟩
   exact set_r1_o2 (hdep ⟨1, .data⟩ (by simp) rfl _ _ rfl)  (hK _ nn1 rfl)
  ·obtain rfl := sj ho
   obtain ⟨rfl, rfl⟩ := pk ht
   refine ⟨want_none rfl, fun K hK => ?_⟩
   exact set_r1_o3 (hdep ⟨2, .data⟩ (by simp) rfl _ _ rfl)  (hK _ nn1 rfl)
  ·obtain rfl := sj ho
   obtain ⟨rfl, rfl⟩ := pk ht
   refine ⟨want_none rfl, fun K hK => ?_⟩
   have k2 := (h.below (phs_low hph (by have := hhi 2 11 rfl (by kernel_rfl); omega))).row.cell (i := 2) (by decide)
   rw [show trC V 2 = V.cv from rfl] at k2
   exact set_r1_o4 (hdep ⟨3, .data⟩ (by simp) rfl _ _ rfl) k2 (hK _ nn1 rfl)
  ·obtain rfl := sj ho
   obtain ⟨rfl, rfl⟩ := pk ht
   refine ⟨want_none rfl, fun K hK => ?_⟩
   obtain ⟨q0, q1, q2, q3, q4, q5, q6, q7, q8⟩ := hbx.below (phs_low hph (by have := hhi 1 10 rfl (by kernel_rfl); omega))
   exact set_r1_o5 (hb (4, .pointer (some ⟨cb, 0, none⟩)) (List.Mem.tail _ (List.Mem.head _))) q0 q1 q2 q3 q4 q5 q6 q7 q8 (hK _ nn1 rfl)
  ·obtain rfl := sj ho
   obtain ⟨rfl, rfl⟩ := pk ht
   refine ⟨want_none rfl, fun K hK => ?_⟩
   exact set_r1_o6 (hb (0, .pointer (some ⟨tb, 0, none⟩)) (List.Mem.head _))  (hK _ nn1 rfl)
  ·obtain rfl := sj ho
   obtain ⟨rfl, rfl⟩ := pk ht
   refine ⟨want_none rfl, fun K hK => ?_⟩
   obtain ⟨q0, q1, q2, q3, q4, q5, q6, q7, q8⟩ := hbx.below (phs_low hph (by have := hhi 0 8 rfl (by kernel_rfl); omega))
   exact set_r1_o7 (hb (4, .pointer (some ⟨cb, 0, none⟩)) (List.Mem.tail _ (List.Mem.head _))) q0 q1 q2 q3 q4 q5 q6 q7 q8 (hK _ nn1 rfl)
  ·exact absurd (by simp) hic
  ·obtain rfl := sj ho
   obtain ⟨rfl, rfl⟩ := pk ht
   refine ⟨want_none rfl, fun K hK => ?_⟩
   exact set_r1_o9 (hdep ⟨5, .data⟩ (by simp) rfl _ _ rfl) (hdep ⟨8, .data⟩ (by simp) rfl _ _ rfl)  (hK _ nn1 rfl)
  ·exact absurd (by simp) hic
  ·exact absurd (by simp) hic
  ·obtain rfl := sj ho
   obtain ⟨rfl, rfl⟩ := pk ht
   refine ⟨want_none rfl, fun K hK => ?_⟩
   exact set_r1_o12 (hdep ⟨0, .data⟩ (by simp) rfl _ _ rfl)  (hK _ nn1 rfl)
  ·obtain rfl := sj ho
   obtain ⟨rfl, rfl⟩ := pk ht
   refine ⟨want_none rfl, fun K hK => ?_⟩
   exact set_r1_o13 (hdep ⟨12, .data⟩ (by simp) rfl _ _ rfl)  (hK _ nn1 rfl)
  ·exact absurd (by simp) hic
 ·intro p i o d T hp ho ht s x hph hdf hb hdep
  have hpl : p < 4 := (List.getElem?_eq_some_iff.1 hp).1
  rcases ltq4 hpl with rfl | rfl | rfl | rfl
  ·obtain rfl := sj hp
   obtain rfl := sj ho
   obtain ⟨rfl, rfl⟩ := pk ht
   refine ⟨want_none rfl, fun K hK => ?_⟩
   refine st_call own_get (ev2 (hdep ⟨6, .data⟩ (by simp) rfl _ _ rfl) (hdep ⟨7, .data⟩ (by simp) rfl _ _ rfl)) (hget x hph) ?_
   rintro e y ⟨rfl, hB⟩
   have hph : Below w.heap.size w x := hph
   exact ⟨_, rfl, hK _ y (hph.trans (hB.mono hph.size)) hB nn1 rfl⟩
  ·obtain rfl := sj hp
   obtain rfl := sj ho
   obtain ⟨rfl, rfl⟩ := pk ht
   refine ⟨want_none rfl, fun K hK => ?_⟩
   have hph : Below w.heap.size w x := hph
   have hB : Below x.heap.size x (x.alloc (.cells #[.int .i64 (kind : Int), .int .u64 (limb at' 0), .int .u64 (limb at' 1), .int .u64 (limb at' 2), .int .u64 (limb at' 3), .int .u64 (limb key 0), .int .u64 (limb key 1), .int .u64 (limb key 2), .int .u64 (limb key 3), .int .u64 (limb r 0), .int .u64 (limb r 1), .int .u64 (limb r 2), .int .u64 (limb r 3)] 220)) := bal (Below.refl _ x) _
   have hL := lit_cells x #[.int .i64 (kind : Int), .int .u64 (limb at' 0), .int .u64 (limb at' 1), .int .u64 (limb at' 2), .int .u64 (limb at' 3), .int .u64 (limb key 0), .int .u64 (limb key 1), .int .u64 (limb key 2), .int .u64 (limb key 3), .int .u64 (limb r 0), .int .u64 (limb r 1), .int .u64 (limb r 2), .int .u64 (limb r 3)] 220
   exact st_one_ch (hdep ⟨9, .data⟩ (by simp) rfl _ _ rfl) (hK _ _ (hph.trans (hB.mono hph.size)) hB nn1 ⟨x.heap.size, rfl, fun _ => ⟨by simp, hL⟩⟩)
  ·obtain rfl := sj hp
   obtain rfl := sj ho
   obtain ⟨rfl, rfl⟩ := pk ht
   refine ⟨want_none rfl, fun K hK => ?_⟩
   have h16 := (hdep ⟨10, .data⟩ (by simp) rfl _ _ rfl)
   obtain ⟨q, e16, hq⟩ := h16
   obtain ⟨hq1, hq2⟩ := hq (by omega)
   have hph : Below w.heap.size w x := hph
   obtain ⟨i0, hi0, hz0, hz1, hz2⟩ := info_parts info_ch
   refine st_append base 220 i0 _ 13 104 ty_ch hi0 hz0 hz1 hz2 rfl (by decide) V.cv T.ch.length (chL T.ch) (hdep ⟨4, .data⟩ (by simp) rfl _ _ rfl) (ownsRow_below h.ch hph) ⟨q, 0, none⟩ 1 1 (chC ⟨kind, at', key, r⟩) e16 rfl hq2 (by intro u hu; simp [chC] at hu; rcases hu with rfl | rfl | rfl | rfl | rfl | rfl | rfl | rfl | rfl | rfl | rfl | rfl | rfl <;> rfl) (by unfold maxLen; omega) (by omega) (Nat.le_trans h.hb hph.size) ?_
   intro v' y ho hg hf
   have ho2 : y.ownsRow base 220 13 v' (T.ch ++ [(⟨kind, at', key, r⟩ : Chg)]).length (chL (T.ch ++ [(⟨kind, at', key, r⟩ : Chg)])) := by rw [chL_snoc, List.length_append]; exact ho
   exact hK v' y ((Kb.of_below hph).grown hg (fun k hk => Or.inl (by rw [hk]; simp))) trivial nn1 ⟨ho2, hf.imp id (fun h k hk => Nat.le_trans hph.size (h k hk))⟩
  ·obtain rfl := sj hp
   obtain rfl := sj ho
   obtain ⟨rfl, rfl⟩ := pk ht
   refine ⟨want_none rfl, fun K hK => ?_⟩
   have h17 := (hdep ⟨11, .data⟩ (by simp) rfl _ _ rfl)
   obtain ⟨ho, hf⟩ := h17
   generalize e17 : valq s (some 17) = v17 at ho hf
   have hph : Kb V.cv.ownBlock.toList w x := hph
   have hr := hph.row h.row (cv_tb h)
   have hne := row_own_ne hr ho tTr_Ch
   obtain ⟨ad, cp, rfl⟩ := own_sl ho
   exact st_store_ch (hdep ⟨13, .data⟩ (by simp) rfl _ _ rfl) e17 (hr.cell (i := 2) (by decide)) (hr.frozen 2) (hK undef _ ⟨_, own_set ho hne 2 _, hf, Up.mk' _ hph (cv_tb h) h.row.lt⟩ ((Kb.refl [tb] x).setCell (Or.inl (by simp)) _) (fun _ => rfl) trivial)
 ·intro vs x hph hl hT
  obtain ⟨v0, v1, v2, v3, v4, v5, v6, v7, v8, v9, v10, v11, v12, v13, v14, rfl⟩ := lenq15 hl
  obtain rfl : v0 = .pointer (some ⟨tb, 0, none⟩) := hT 0 _ _ rfl
  obtain rfl : v1 = .pointer (some ⟨tb, 0, none⟩) := hT 1 _ _ rfl
  obtain rfl : v2 = .pointer (some ⟨tb, 0, none⟩) := hT 2 _ _ rfl
  obtain rfl : v3 = .pointer (some ⟨tb, 2, none⟩) := hT 3 _ _ rfl
  obtain rfl : v4 = V.cv := hT 4 _ _ rfl
  obtain rfl : v5 = .agg #[.int .i64 (kind : Int), .int .u64 (limb at' 0), .int .u64 (limb at' 1), .int .u64 (limb at' 2), .int .u64 (limb at' 3), .int .u64 (limb key 0), .int .u64 (limb key 1), .int .u64 (limb key 2), .int .u64 (limb key 3)] := hT 5 _ _ rfl
  obtain rfl : v6 = .pointer (some ⟨tb, 0, none⟩) := hT 6 _ _ rfl
  obtain rfl : v7 = .agg #[.int .i64 (kind : Int), .int .u64 (limb at' 0), .int .u64 (limb at' 1), .int .u64 (limb at' 2), .int .u64 (limb at' 3), .int .u64 (limb key 0), .int .u64 (limb key 1), .int .u64 (limb key 2), .int .u64 (limb key 3)] := hT 7 _ _ rfl
  obtain rfl : v8 = wv r := hT 8 _ _ rfl
  obtain rfl : v9 = .agg #[.int .i64 (kind : Int), .int .u64 (limb at' 0), .int .u64 (limb at' 1), .int .u64 (limb at' 2), .int .u64 (limb at' 3), .int .u64 (limb key 0), .int .u64 (limb key 1), .int .u64 (limb key 2), .int .u64 (limb key 3), .int .u64 (limb r 0), .int .u64 (limb r 1), .int .u64 (limb r 2), .int .u64 (limb r 3)] := hT 9 _ _ rfl
  have t10 : (OneL ⟨kind, at', key, r⟩) 4 v10 x := hT 10 _ _ rfl
  have t11 : (NewL base V (T.ch ++ [⟨kind, at', key, r⟩]) w) 4 v11 x := hT 11 _ _ rfl
  obtain rfl : v12 = .pointer (some ⟨tb, 0, none⟩) := hT 12 _ _ rfl
  obtain rfl : v13 = .pointer (some ⟨tb, 2, none⟩) := hT 13 _ _ rfl
  exact hok x v10 v11 hph t10 t11
end
end
section
open Go.RowKit Go.Maps
set_option maxRecDepth 100000
theorem TTo.comp {base tb m m' : Nat} {T T1 T2 : TS} {V V1 : TV} {S : List Nat} {w w1 w2 : World} (h2 : V1.n ≤ V.n + m) (h3 : Kb S w w1) (h4 : ∀ k ∈ S, Tfoot tb T V k) (h5 : ∀ k, Tfoot tb T1 V1 k → Tfoot tb T V k ∨ w.heap.size ≤ k) (h6 : V1.ab = V.ab) (k : TTo base tb T1 V1 T2 m' w1 w2) : TTo base tb T V T2 (m + m') w w2 := by
 obtain ⟨V2, S2, k1, k2, k3, k4, k5, k6⟩ := k
 refine ⟨V2, S ++ S2.filter (fun k => decide (k < w.heap.size)), k1, by omega, (h3.mono (fun i hi => List.mem_append_left _ hi)).trans k3 (fun i hi => ?_), fun i hi => ?_, fun i hi => ?_, k6.trans h6⟩
 ·by_cases hl : i < w.heap.size
  ·exact Or.inl (List.mem_append_right _ (List.mem_filter.2 ⟨hi, by simpa using hl⟩))
  ·exact Or.inr (by omega)
 ·rcases List.mem_append.1 hi with e | e
  ·exact h4 i e
  ·obtain ⟨e1, e2⟩ := List.mem_filter.1 e
   rcases h5 i (k4 i e1) with e3 | e3
   ·exact e3
   ·have : i < w.heap.size := by simpa using e2
    omega
 ·rcases k5 i hi with e | e
  ·exact h5 i e
  ·exact Or.inr (Nat.le_trans h3.size e)
theorem Kb.undrew {S : List Nat} {w x : World} (h : Kb S w x) : Kb S w.drew x := ⟨h.os, h.tape, h.output, h.size, h.block⟩
set_option maxHeartbeats 8000000 in
theorem set_of {base tb : Nat} {T : TS} {V : TV} (kind at' key v r : Nat) (w : World) (h : Tr base tb T V w) (hr : r = getT T kind at' key) (hl : T.ch.length < 1000000000)
  (hget : ∀ x, Tr base tb T V x → Calls Tryz.prog 202 #[.pointer (some ⟨tb, 0, none⟩), cellV kind at' key] x fun e w' => e = .returned (wv r) ∧ Below x.heap.size x w')
  (hput : ∀ T' V' x, Tr base tb T' V' x → V'.n ≤ V.n → Calls Tryz.prog 159 #[.pointer (some ⟨tb, 0, none⟩), cellV kind at' key, wv v] x fun e w' => e = .returned (.tuple #[]) ∧ TTo base tb T' V' (putT T' kind at' key v) 2 x w') :
  Calls Tryz.prog 154 #[.pointer (some ⟨tb, 0, none⟩), cellV kind at' key, wv v] w fun e w' => e = .returned (.tuple #[]) ∧ TTo base tb T V (setT T kind at' key v) 2 w w' := by
 go_enter Tryz.func154, Tryz.ntmps154
 go_wp2
 have hB : Below w.heap.size w ((w.alloc (.cells (cellC kind at' key) 217)).alloc (wc v)) := bal (bal (Below.refl _ w) _) _
 have h2 := h.below hB
 have hbx : CellAt ((w.alloc (.cells (cellC kind at' key) 217)).alloc (wc v)) w.heap.size kind at' key := by
  unfold CellAt
  simp [go_sem]
 refine set_r1 (r := r) (cb := w.heap.size) _ _ h2 hl (fun x hx => hget x (h2.below hx)) hbx (Below.refl _ _).drew rfl rfl rfl ?_
 rintro x z10 z11 ⟨v', ho, hf, hu⟩ - -
 have hcb : ∀ k, V.cv.ownBlock = some k → base ≤ k ∧ k < w.heap.size := fun k hk => h.ch.lt k hk
 obtain ⟨hT, hTo⟩ := h2.ch_to hu ho hf (fun k hk => (hcb k hk).1)
 obtain ⟨⟨k0, k1, k2, k3, k4, k5, k6, k7, k8⟩, l0, l1, l2, l3⟩ := cells_of hu.kb.undrew (fun hm => by
  rcases List.mem_cons.1 hm with e | e
  ·have := h.row.lt; omega
  ·have := (hcb _ (by simpa using e)).2; omega) (fun hm => by
  rcases List.mem_cons.1 hm with e | e
  ·have := h.row.lt; omega
  ·have := (hcb _ (by simpa using e)).2; omega)
 obtain ⟨V1, S1, j1, j2, j3, j4, j5, j6⟩ := hTo
 have HP := hid_of (hput _ V1 x j1 (by omega))
 have HO : Hid (∀ y, TTo base tb { T with ch := T.ch ++ [⟨kind, at', key, r⟩] } V1 (putT { T with ch := T.ch ++ [⟨kind, at', key, r⟩] } kind at' key v) 2 x y → TTo base tb T V (setT T kind at' key v) 2 w y) := by
  intro y hy
  unfold setT
  rw [← hr]
  exact TTo.pre hB (TTo.comp (m := 0) j2 j3 j4 j5 j6 hy)
 clear hT hu hf ho hcb j1 j2 j3 j4 j5 j6 h h2 hbx hB hget hput hl hr
 simp only [fill, List.foldl_cons, List.foldl_nil, Act.put]
 simp only [List.setIfInBounds_toArray, List.set_cons_zero, List.set_cons_succ]
 go_wp2_with fail
 refine HP.out.mono ?_
 rintro e y ⟨rfl, hy⟩
 have HY := hid_of (HO.out y hy)
 clear hy HO HP
 go_wp2
 go_end0
 exact ⟨rfl, HY.out⟩
theorem set_money {base tb : Nat} {T : TS} {V : TV} (at' key v : Nat) (w : World) (h : Tr base tb T V w) (hl : T.ch.length < 1000000000) (hn : V.n < 1000000000) :
  Calls Tryz.prog 154 #[.pointer (some ⟨tb, 0, none⟩), cellV 0 at' key, wv v] w fun e w' => e = .returned (.tuple #[]) ∧ TTo base tb T V (setT T 0 at' key v) 2 w w' :=
 set_of 0 at' key v _ w h rfl hl (fun x hx => get_money at' key x hx) (fun T' V' x hx hv => tput_money at' key v x hx (by omega))
theorem set_lasting {base tb : Nat} {T : TS} {V : TV} (at' key v : Nat) (w : World) (h : Tr base tb T V w) (hl : T.ch.length < 1000000000) (hn : V.n < 1000000000) :
  Calls Tryz.prog 154 #[.pointer (some ⟨tb, 0, none⟩), cellV 1 at' key, wv v] w fun e w' => e = .returned (.tuple #[]) ∧ TTo base tb T V (setT T 1 at' key v) 2 w w' :=
 set_of 1 at' key v _ w h rfl hl (fun x hx => get_lasting at' key x hx) (fun T' V' x hx hv => tput_lasting at' key v x hx (by omega))
end
section
open Go.RowKit Go.Maps
set_option maxHeartbeats 8000000
set_option maxRecDepth 100000
abbrev zc : Obj := .cells #[.int .u64 0, .int .u64 0, .int .u64 0, .int .u64 0] 24
theorem zrow_new (w : World) : wrow (w.alloc zc) w.heap.size 0 := row_lit4 _ rfl rfl rfl rfl rfl
theorem balance_any {base tb : Nat} {T : TS} {V : TV} (at' : Nat) (w : World) (h : Tr base tb T V w) :
  Calls Tryz.prog 156 #[.pointer (some ⟨tb, 0, none⟩), wv at'] w fun e w' => e = .returned (wv (T.acc at').bal) ∧ Below w.heap.size w w' := by
 have hB : Below w.heap.size w ((w.alloc (wc at')).alloc zc) := bal (bal (Below.refl _ w) _) _
 have HG := hid_of (get_money at' 0 _ (h.below hB))
 have HB := hid_of hB
 have HZ : Hid (wrow ((w.alloc (wc at')).alloc zc) (w.heap.size + 1) 0) := by
  have := zrow_new (w.alloc (wc at'))
  rw [show (w.alloc (wc at')).heap.size = w.heap.size + 1 by simp] at this
  exact this
 clear h hB
 generalize (T.acc at').bal = bl at *
 unfold cellV cellC at HG
 simp only [limb_zero] at HG
 go_enter Tryz.func156, Tryz.ntmps156
 go_wp2_with fail
 refine HG.out.mono ?_
 rintro e w1 ⟨rfl, hb⟩
 have hrz := row_below HZ.out hb
 have HBL : Hid (Below w.heap.size w w1) := HB.out.trans (hb.mono HB.out.size)
 obtain ⟨x0, x1, x2, x3⟩ := row_cells4 hrz
 have fz := hrz.frozen
 clear hb HG
 go_wp2
 obtain ⟨q0, q1, q2, q3⟩ := row_cells4 (row_put4 hrz (limb bl) rfl rfl rfl rfl)
 refine bodyPost_ret (v := wv bl) (by simp [results, Tryz.results156, go_sem, q0, q1, q2, q3]) rfl ⟨rfl, below_put4 HBL.out (by omega) _ _ _ _⟩
abbrev r3 (w : World) (a b : Nat) : World := ((w.alloc (wc a)).alloc (wc b)).alloc zc
theorem r3_below (w : World) (a b : Nat) : Below w.heap.size w (r3 w a b) := bal (bal (bal (Below.refl _ w) _) _) _
theorem reckon_any (op : Nat) (ho : op ≤ 255) (a b : Nat) (w : World) (hz : Zr w) :
  Calls Tryz.prog 155 #[.int .u8 (op : Int), wv a, wv b] w fun e w' => e = .returned (wv (fcalc op (a % M) (b % M) 0)) ∧ Below w.heap.size w w' := by
 have HC := hid_of (calc_any op ho a b 0 (r3 w a b))
 have HB := hid_of (r3_below w a b)
 have HZ : Hid (wrow (r3 w a b) (w.heap.size + 1 + 1) 0) := by
  have := zrow_new ((w.alloc (wc a)).alloc (wc b))
  rw [show ((w.alloc (wc a)).alloc (wc b)).heap.size = w.heap.size + 1 + 1 by simp] at this
  exact this
 obtain ⟨⟨z0, z1, z2, z3⟩, _⟩ := hz.below (bal (Below.refl _ w) (wc a))
 unfold wv at HC
 simp only [limb_zero] at HC
 rw [show (0 : Nat) % M = 0 from rfl] at HC
 generalize ferr op = er at *
 generalize fcalc op (a % M) (b % M) 0 = res at *
 clear hz
 go_enter Tryz.func155, Tryz.ntmps155
 go_wp2_with fail
 refine HC.out.mono ?_
 rintro e w1 ⟨r, hr, rfl, hb⟩
 have hrz := row_below HZ.out hb
 have HBL : Hid (Below w.heap.size w w1) := HB.out.trans (hb.mono HB.out.size)
 have hrz2 := row_below hrz (bal (Below.refl _ w1) (wc r))
 obtain ⟨x0, x1, x2, x3⟩ := row_cells4 hrz2
 have fz := hrz2.frozen
 clear hb HC
 go_wp2
 obtain ⟨q0, q1, q2, q3⟩ := row_cells4 (row_put4 hrz2 (limb r) rfl rfl rfl rfl)
 refine bodyPost_ret (v := wv r) (by simp [results, Tryz.results155, go_sem, q0, q1, q2, q3]) rfl ⟨by rw [hr.out], below_put4 (bal HBL.out _) (by omega) _ _ _ _⟩
end
end cin
end Go.Proofs.YtohoajjdoihekaaGreatDoor
