/-
  Steps of a statement 'q, r := f(..)' whose operations come up in whatever order: the parts of a tuple, new places, stores.
-/
import Derived.Test.YtohoajjdoihekaaRh
import Derived.Test.YtohoajjdoihekaaPrf
set_option linter.unusedVariables false
set_option linter.unusedSimpArgs false
namespace Go.Proofs.Ytohoajjdoihekaa
open Go.RowKit
namespace cin
set_option maxRecDepth 100000
variable {s : Act} {x : World} {pos : String} {af : Array Edge} {g : Option (Nat × Bool)} {K : Act → World → Prop} {Q : Exit → Act → World → Prop}
theorem st_ext0 (t d : Nat) (u v : Value) {ty : TypeId} (he : s.tmps.getD t undef = .tuple #[u, v]) (hK : K (s.put (some d) u) x) :
    Oper.wp Try.prog { dst := some d, op := .extract (.tmp t) 0, type := ty, pos := pos, after := af, guard := g } s x K Q := by
  have he2 : s.eval (.tmp t) = .tuple #[u, v] := he
  go_simp
  exact hK
theorem st_ext1 (t d : Nat) (u v : Value) {ty : TypeId} (he : s.tmps.getD t undef = .tuple #[u, v]) (hK : K (s.put (some d) v) x) :
    Oper.wp Try.prog { dst := some d, op := .extract (.tmp t) 1, type := ty, pos := pos, after := af, guard := g } s x K Q := by
  have he2 : s.eval (.tmp t) = .tuple #[u, v] := he
  go_simp
  exact hK
abbrev ptr (p : Nat) : Value := .pointer (some ⟨p, 0, none⟩)
/-- a new place behind block N, a row of a word -/
def PtrRow (N : Nat) (v : Value) (x : World) : Prop := ∃ p f, v = ptr p ∧ N < p ∧ x.rowIs p 24 4 f
def PtrIs (N n : Nat) (v : Value) (x : World) : Prop := ∃ p, v = ptr p ∧ N < p ∧ x.rowIs p 24 4 (u64s (limb n))
/-- a word stored at a place behind block N -/
def Stored (N : Nat) (v : Value) (x x' : World) : Prop := ∃ p f v0 v1 v2 v3, v = ptr p ∧ N < p ∧ x.rowIs p 24 4 f ∧ x' = (((x.setCell ⟨p, 0, none⟩ v0).setCell ⟨p, 1, none⟩ v1).setCell ⟨p, 2, none⟩ v2).setCell ⟨p, 3, none⟩ v3
theorem PtrRow.below {N : Nat} {v : Value} {x x' : World} (h : PtrRow N v x) (hb : Below x.heap.size x x') : PtrRow N v x' := by
  obtain ⟨p, f, h1, h2, h3⟩ := h
  exact ⟨p, f, h1, h2, row_below h3 hb⟩
theorem PtrIs.below {N n : Nat} {v : Value} {x x' : World} (h : PtrIs N n v x) (hb : Below x.heap.size x x') : PtrIs N n v x' := by
  obtain ⟨p, h1, h2, h3⟩ := h
  exact ⟨p, h1, h2, row_below h3 hb⟩
theorem row_put_any {x : World} {p : Nat} {f : Nat → Value} (h : x.rowIs p 24 4 f) (v0 v1 v2 v3 : Value) : ∃ g, ((((x.setCell ⟨p, 0, none⟩ v0).setCell ⟨p, 1, none⟩ v1).setCell ⟨p, 2, none⟩ v2).setCell ⟨p, 3, none⟩ v3).rowIs p 24 4 g :=
  ⟨_, (((h.set 0 _).set 1 _).set 2 _).set 3 _⟩
theorem PtrRow.stored {N M' : Nat} {v u : Value} {x x' : World} (h : PtrRow N v x) (hs : Stored M' u x x') : PtrRow N v x' := by
  obtain ⟨p, f, h1, h2, h3⟩ := h
  obtain ⟨q, g', v0, v1, v2, v3, k1, k2, k3, e⟩ := hs
  by_cases hpq : p = q
  · subst hpq
    obtain ⟨g2, hg⟩ := row_put_any h3 v0 v1 v2 v3
    exact ⟨p, g2, h1, h2, e ▸ hg⟩
  · exact ⟨p, f, h1, h2, h3.of_block (put4_other e _ hpq)⟩
theorem PtrIs.stored {N n M' : Nat} {v u : Value} {x x' : World} (h : PtrIs N n v x) (hs : Stored M' u x x') (hne : ∀ p q, v = ptr p → u = ptr q → p ≠ q) : PtrIs N n v x' := by
  obtain ⟨p, h1, h2, h3⟩ := h
  obtain ⟨q, g', v0, v1, v2, v3, k1, k2, k3, e⟩ := hs
  exact ⟨p, h1, h2, h3.of_block (put4_other e _ (hne p q h1 k1))⟩
theorem SliceOf.stored {L n M' : Nat} {v u : Value} {x x' : World} (h : SliceOf L n v x) (hs : Stored M' u x x') : SliceOf L n v x' := by
  obtain ⟨b, r, c, h1, h2, h3⟩ := h
  obtain ⟨q, g', v0, v1, v2, v3, k1, k2, k3, e⟩ := hs
  exact ⟨b, r, c, h1, h2, h3.of_block (put4_other e _ (row_ne h3 k3 (by decide)))⟩
/-- two new places: they lie in the heap, and apart -/
def Two (x : World) (u v : Value) : Prop := (∀ p, u = ptr p → p < x.heap.size) ∧ (∀ p, v = ptr p → p < x.heap.size) ∧ ∀ p q, u = ptr p → v = ptr q → p ≠ q
theorem Two.mono {x x' : World} {u v : Value} (h : Two x u v) (hb : x.heap.size ≤ x'.heap.size) : Two x' u v :=
  ⟨fun p e => Nat.lt_of_lt_of_le (h.1 p e) hb, fun p e => Nat.lt_of_lt_of_le (h.2.1 p e) hb, h.2.2⟩
theorem ptr_inj {p q : Nat} (h : ptr p = ptr q) : p = q := by
  injection h with h; injection h with h; injection h
theorem Two.fst {x : World} {u v : Value} (h : Two x u v) (o : Obj) : Two (x.alloc o) (ptr x.heap.size) v := by
  refine ⟨fun p e => ?_, fun p e => ?_, fun p q e e2 => ?_⟩
  · rw [← ptr_inj e]; simp
  · have := h.2.1 p e; simp; omega
  · have := h.2.1 q e2; rw [← ptr_inj e]; omega
theorem Two.snd {x : World} {u v : Value} (h : Two x u v) (o : Obj) : Two (x.alloc o) u (ptr x.heap.size) := by
  refine ⟨fun p e => ?_, fun p e => ?_, fun p q e e2 => ?_⟩
  · have := h.1 p e; simp; omega
  · rw [← ptr_inj e]; simp
  · have := h.1 p e; rw [← ptr_inj e2]; omega
theorem two_undef (x : World) : Two x undef undef := ⟨fun p e => (by cases e), fun p e => (by cases e), fun p q e => (by cases e)⟩
theorem put4_size {x x' : World} {b : Nat} {v0 v1 v2 v3 : Value} (e : x' = (((x.setCell ⟨b, 0, none⟩ v0).setCell ⟨b, 1, none⟩ v1).setCell ⟨b, 2, none⟩ v2).setCell ⟨b, 3, none⟩ v3) : x'.heap.size = x.heap.size := by subst e; simp
/-- what reckon and Calc hold: their three words, the result's place -/
structure RC (w : World) (a b c : Nat) (x : World) : Prop where
  ra : x.rowIs w.heap.size 24 4 (u64s (limb a))
  rb : x.rowIs (w.heap.size + 1) 24 4 (u64s (limb b))
  rc : x.rowIs (w.heap.size + 1 + 1) 24 4 (u64s (limb c))
  rz : x.rowIs (w.heap.size + 1 + 1 + 1) 24 4 (u64s fun _ => 0)
  be : Below w.heap.size w x
theorem RC.call {w : World} {a b c : Nat} {x y : World} (h : RC w a b c x) (hb : Below x.heap.size x y) : RC w a b c y := ⟨row_below h.ra hb, row_below h.rb hb, row_below h.rc hb, row_below h.rz hb, bcall h.be hb⟩
theorem RC.drew {w : World} {a b c : Nat} {x : World} (h : RC w a b c x) : RC w a b c x.drew := ⟨h.ra, h.rb, h.rc, h.rz, h.be.drew⟩
theorem RC.alloc {w : World} {a b c : Nat} {x : World} (h : RC w a b c x) (o : Obj) : RC w a b c (x.alloc o) := ⟨h.ra.alloc _, h.rb.alloc _, h.rc.alloc _, h.rz.alloc _, bal h.be _⟩
theorem RC.put {w : World} {a b c p : Nat} {x x' : World} (h : RC w a b c x) (hp : w.heap.size + 1 + 1 + 1 < p) {v0 v1 v2 v3 : Value} (e : x' = (((x.setCell ⟨p, 0, none⟩ v0).setCell ⟨p, 1, none⟩ v1).setCell ⟨p, 2, none⟩ v2).setCell ⟨p, 3, none⟩ v3) : RC w a b c x' :=
  ⟨h.ra.of_block (put4_other e _ (by omega)), h.rb.of_block (put4_other e _ (by omega)), h.rc.of_block (put4_other e _ (by omega)), h.rz.of_block (put4_other e _ (by omega)), by subst e; exact below_put4 h.be (by omega) _ _ _ _⟩
theorem RC.start (w : World) (a b c : Nat) : RC w a b c ((((w.alloc (.cells #[.int .u64 (limb a 0), .int .u64 (limb a 1), .int .u64 (limb a 2), .int .u64 (limb a 3)] 24)).alloc (.cells #[.int .u64 (limb b 0), .int .u64 (limb b 1), .int .u64 (limb b 2), .int .u64 (limb b 3)] 24)).alloc (.cells #[.int .u64 (limb c 0), .int .u64 (limb c 1), .int .u64 (limb c 2), .int .u64 (limb c 3)] 24)).alloc (.cells #[.int .u64 0, .int .u64 0, .int .u64 0, .int .u64 0] 24)) :=
  ⟨row_lit4 (limb a) rfl rfl rfl rfl rfl |>.alloc _ |>.alloc _ |>.alloc _, row_lit4 (limb b) (by simp) rfl rfl rfl rfl |>.alloc _ |>.alloc _, row_lit4 (limb c) (by simp) rfl rfl rfl rfl |>.alloc _, row_lit4 (fun _ => 0) (by simp) rfl rfl rfl rfl, bal (bal (bal (bal (Below.refl _ _) _) _) _) _⟩
theorem bel_alloc (x : World) (o : Obj) : Below x.heap.size x (x.alloc o) := bal (Below.refl _ _) o
theorem st_divide (t u d n b L q r : Nat) (hL : L ≤ 100000) (hn : Hid (∀ j, L ≤ j → n.testBit j = false)) (hb0 : Hid (b < M)) (hb1 : Hid (0 < b)) (hq : Hid (q = n / b)) (hr : Hid (r = n % b)) {A : Array TypeId} {ty : TypeId} (he : SliceOf L n (s.tmps.getD t undef) x) (hu : s.tmps.getD u undef = wv b)
    (hK : ∀ x', Below x.heap.size x x' → K (s.put (some d) (.tuple #[wv q, wv r])) x') :
    Oper.wp Try.prog { dst := some d, op := .call { callee := .value (.func 51), args := #[.tmp t, .tmp u], argTypes := A }, type := ty, pos := pos, after := af, guard := g } s x K Q := by
  obtain ⟨b1, r1, c1, h1, he, hr1⟩ := he
  obtain rfl := h1.out
  refine st_call own_Divide (ev2 he hu) (rdivide_any r1 b b1 L c1 hL hn hb0 hb1 x hr1) ?_
  rintro e x' ⟨q', r', hq', hr', rfl, hb⟩
  obtain rfl : q = q' := hq.out.trans hq'.out.symm
  obtain rfl : r = r' := hr.out.trans hr'.out.symm
  exact ⟨_, rfl, hK _ hb⟩
theorem st_product (t u d m n : Nat) {A : Array TypeId} {ty : TypeId} (he : s.tmps.getD t undef = wv m) (hu : s.tmps.getD u undef = wv n) (hK : ∀ v x', Below x.heap.size x x' → SliceOf 512 (m % M * (n % M)) v x' → K (s.put (some d) v) x') :
    Oper.wp Try.prog { dst := some d, op := .call { callee := .value (.func 17), args := #[.tmp t, .tmp u], argTypes := A }, type := ty, pos := pos, after := af, guard := g } s x K Q := by
  refine st_call own_product (ev2 he hu) (rproduct_any m n x) ?_
  rintro e x' ⟨b, r, hr, rfl, hb1, hrow, hb⟩
  exact ⟨_, rfl, hK _ _ hb ⟨b, r, 512, hr, rfl, hrow⟩⟩
theorem st_bool (f t d n : Nat) (r : Bool) (hf : Own f) (hc : ∀ w, Calls Try.prog f #[wv n] w fun e w' => e = .returned (.bool r) ∧ Below w.heap.size w w') {A : Array TypeId} {ty : TypeId} (he : s.tmps.getD t undef = wv n) (hK : ∀ x', Below x.heap.size x x' → K (s.put (some d) (.bool r)) x') :
    Oper.wp Try.prog { dst := some d, op := .call { callee := .value (.func f), args := #[.tmp t], argTypes := A }, type := ty, pos := pos, after := af, guard := g } s x K Q := by
  refine st_call hf (ev1 he) (hc x) ?_
  rintro e x' ⟨rfl, hb⟩
  exact ⟨_, rfl, hK _ hb⟩
theorem st_neqb (t u d : Nat) (p q : Bool) {ty : TypeId} (he : s.tmps.getD t undef = .bool p) (hu : s.tmps.getD u undef = .bool q) (hK : K (s.put (some d) (.bool (p != q))) x) :
    Oper.wp Try.prog { dst := some d, op := .binOp .neq 4 (.tmp t) (.tmp u) 4, type := ty, pos := pos, after := af, guard := g } s x K Q := by
  have he2 : s.eval (.tmp t) = .bool p := he
  have hu2 : s.eval (.tmp u) = .bool q := hu
  go_simp
  exact hK
end cin
end Go.Proofs.Ytohoajjdoihekaa
