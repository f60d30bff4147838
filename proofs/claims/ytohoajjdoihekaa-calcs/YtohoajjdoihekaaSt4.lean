/-
  Calls, run against a frame that is a variable, by whatever contract the callee has; a word stored into a row.
-/
import Derived.Test.YtohoajjdoihekaaSt3
import Derived.Test.YtohoajjdoihekaaPrd
import Derived.Test.YtohoajjdoihekaaRb
set_option linter.unusedVariables false
set_option linter.unusedSimpArgs false
namespace Go.Proofs.Ytohoajjdoihekaa
open Go.RowKit
namespace cin
set_option maxRecDepth 100000
variable {s : Act} {x : World} {pos : String} {af : Array Edge} {g : Option (Nat × Bool)} {K : Act → World → Prop} {Q : Exit → Act → World → Prop}
/-- function f is one of the program's own -/
def Own (f : Nat) : Prop := ∀ args w, (callFunc f args).run Try.prog w = .ok (.enter f args) w
theorem st_call {f d : Nat} {xs : Array Operand} {vs : Array Value} {A : Array TypeId} {ty : TypeId} {Post : Ending → World → Prop} (hf : Own f) (hv : #[] ++ xs.map s.eval ++ #[] = vs) (hc : Calls Try.prog f vs x Post)
    (hK : ∀ e x', Post e x' → ∃ r, e = .returned r ∧ K (s.put (some d) r) x') :
    Oper.wp Try.prog { dst := some d, op := .call { callee := .value (.func f), args := xs, argTypes := A }, type := ty, pos := pos, after := af, guard := g } s x K Q := by
  unfold Oper.wp
  rw [execOp_call_go, hv, hf]
  rw [Oper.upon_enter]
  refine hc.mono ?_
  intro e y h
  obtain ⟨r, rfl, h2⟩ := hK e y h
  exact h2
theorem ev1 {o1 : Operand} {v1 : Value} (h1 : s.eval o1 = v1) : #[] ++ (#[o1] : Array Operand).map s.eval ++ #[] = #[v1] := by simp [h1]
theorem ev2 {o1 o2 : Operand} {v1 v2 : Value} (h1 : s.eval o1 = v1) (h2 : s.eval o2 = v2) : #[] ++ (#[o1, o2] : Array Operand).map s.eval ++ #[] = #[v1, v2] := by simp [h1, h2]
theorem ev3 {o1 o2 o3 : Operand} {v1 v2 v3 : Value} (h1 : s.eval o1 = v1) (h2 : s.eval o2 = v2) (h3 : s.eval o3 = v3) : #[] ++ (#[o1, o2, o3] : Array Operand).map s.eval ++ #[] = #[v1, v2, v3] := by simp [h1, h2, h3]
theorem ev4 {o1 o2 o3 o4 : Operand} {v1 v2 v3 v4 : Value} (h1 : s.eval o1 = v1) (h2 : s.eval o2 = v2) (h3 : s.eval o3 = v3) (h4 : s.eval o4 = v4) : #[] ++ (#[o1, o2, o3, o4] : Array Operand).map s.eval ++ #[] = #[v1, v2, v3, v4] := by simp [h1, h2, h3, h4]
theorem own_BitsOf : Own 22 := fun _ _ => by kernel_rfl
theorem own_WordOf : Own 16 := fun _ _ => by kernel_rfl
theorem own_addb : Own 49 := fun _ _ => by kernel_rfl
theorem own_notb : Own 67 := fun _ _ => by kernel_rfl
theorem own_Add : Own 15 := fun _ _ => by kernel_rfl
theorem own_Neg : Own 50 := fun _ _ => by kernel_rfl
theorem own_Sub : Own 18 := fun _ _ => by kernel_rfl
theorem own_Small : Own 7 := fun _ _ => by kernel_rfl
theorem own_product : Own 17 := fun _ _ => by kernel_rfl
theorem own_Divide : Own 51 := fun _ _ => by kernel_rfl
theorem own_size : Own 52 := fun _ _ => by kernel_rfl
theorem own_minus : Own 53 := fun _ _ => by kernel_rfl
theorem own_Less : Own 24 := fun _ _ => by kernel_rfl
theorem own_truth : Own 23 := fun _ _ => by kernel_rfl
/-- a slice: L bits of the number n -/
def SliceOf (L n : Nat) (v : Value) (x : World) : Prop := ∃ b r c : Nat, Hid (r = n) ∧ v = .slice (some ⟨b, 0, none⟩) L c ∧ x.rowIs b 4 L (bools r.testBit)
theorem SliceOf.below {L n : Nat} {v : Value} {x x' : World} (h : SliceOf L n v x) (hb : Below x.heap.size x x') : SliceOf L n v x' := by
  obtain ⟨b, r, c, h1, h2, h3⟩ := h
  exact ⟨b, r, c, h1, h2, row_below h3 hb⟩
theorem st_bitsOf (t d n : Nat) {A : Array TypeId} {ty : TypeId} (he : s.tmps.getD t undef = wv n) (hK : ∀ v x', Below x.heap.size x x' → SliceOf 256 n v x' → K (s.put (some d) v) x') :
    Oper.wp Try.prog { dst := some d, op := .call { callee := .value (.func 22), args := #[.tmp t], argTypes := A }, type := ty, pos := pos, after := af, guard := g } s x K Q := by
  refine st_call own_BitsOf (ev1 he) (bitsOf_any n x) ?_
  rintro e x' ⟨b, rfl, hb1, hr, hb⟩
  exact ⟨_, rfl, hK _ _ hb ⟨b, n, 256, rfl, rfl, hr⟩⟩
theorem st_addb (t u d m n : Nat) (hm : Hid (m < 2 ^ 256)) (hn : Hid (n < 2 ^ 256)) {A : Array TypeId} {ty : TypeId} (he : SliceOf 256 m (s.tmps.getD t undef) x) (hu : SliceOf 256 n (s.tmps.getD u undef) x) (hK : ∀ v x', Below x.heap.size x x' → SliceOf 257 (m + n) v x' → K (s.put (some d) v) x') :
    Oper.wp Try.prog { dst := some d, op := .call { callee := .value (.func 49), args := #[.tmp t, .tmp u, .const (.int .i64 256)], argTypes := A }, type := ty, pos := pos, after := af, guard := g } s x K Q := by
  obtain ⟨b1, r1, c1, h1, he, hr1⟩ := he
  obtain ⟨b2, r2, c2, h2, hu, hr2⟩ := hu
  obtain rfl := h1.out
  obtain rfl := h2.out
  refine st_call own_addb (ev3 he hu rfl) (addb_any r1 r2 b1 b2 c1 c2 hm hn x hr1 hr2) ?_
  rintro e x' ⟨b, r, hr, rfl, hb1, hrow, hb⟩
  exact ⟨_, rfl, hK _ _ hb ⟨b, r, 257, hr, rfl, hrow⟩⟩
theorem st_ret {f d n r : Nat} {xs : Array Operand} {vs : Array Value} {A : Array TypeId} {ty : TypeId} (hf : Own f) (hv : #[] ++ xs.map s.eval ++ #[] = vs) (hc : Calls Try.prog f vs x (Ret x n)) (hr : Hid (r = n))
    (hK : ∀ x', Below x.heap.size x x' → K (s.put (some d) (wv r)) x') :
    Oper.wp Try.prog { dst := some d, op := .call { callee := .value (.func f), args := xs, argTypes := A }, type := ty, pos := pos, after := af, guard := g } s x K Q := by
  refine st_call hf hv hc ?_
  rintro e x' ⟨q, HQ, rfl, hb⟩
  obtain rfl : r = q := hr.out.trans HQ.out.symm
  exact ⟨_, rfl, hK _ hb⟩
/-- a word stored into a row -/
theorem st_storew {t u b n : Nat} {f : Nat → Value} {ty : TypeId} (he : s.tmps.getD t undef = .pointer (some ⟨b, 0, none⟩)) (hu : s.tmps.getD u undef = wv n) (hr : x.rowIs b 24 4 f)
    (hK : ∀ x', x'.rowIs b 24 4 (u64s (limb n)) → x' = (((x.setCell ⟨b, 0, none⟩ (.int .u64 (limb n 0))).setCell ⟨b, 1, none⟩ (.int .u64 (limb n 1))).setCell ⟨b, 2, none⟩ (.int .u64 (limb n 2))).setCell ⟨b, 3, none⟩ (.int .u64 (limb n 3)) → K (s.put none undef) x') :
    Oper.wp Try.prog { dst := none, op := .store 24 (.tmp t) (.tmp u), type := ty, pos := pos, after := af, guard := g } s x K Q := by
  have he2 : s.eval (.tmp t) = .pointer (some ⟨b, 0, none⟩) := he
  have hu2 : s.eval (.tmp u) = wv n := hu
  have x0 := hr.cell (i := 0) (by omega)
  have x1 := hr.cell (i := 1) (by omega)
  have x2 := hr.cell (i := 2) (by omega)
  have x3 := hr.cell (i := 3) (by omega)
  have fz := hr.frozen
  have hrow := row_put4 hr (limb n) rfl rfl rfl rfl
  have h := hK _ hrow rfl
  clear hK hrow hr
  go_simp
  exact h
end cin
end Go.Proofs.Ytohoajjdoihekaa
