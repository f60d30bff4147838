/-
  Single operations of the statements' own functions, run against a frame that is a variable.
-/
import Derived.Test.YtohoajjdoihekaaWo
import Derived.Test.YtohoajjdoihekaaTab
set_option linter.unusedVariables false
set_option linter.unusedSimpArgs false
namespace Go.Proofs.Ytohoajjdoihekaa
open Go.RowKit
namespace cin
set_option maxRecDepth 100000
theorem want_none {ops : Array Oper} {o : Oper} {t : Array Value} (h : o.guard = none) : Region.wanted o (yielded ops t) = true := by unfold Region.wanted; rw [h]
theorem want_some {ops : Array Oper} {o og : Oper} {t : Array Value} {g d : Nat} (h : o.guard = some (g, true)) (hg : ops[g]? = some og) (hd : og.dst = some d) (hv : t.getD d undef = .bool true) : Region.wanted o (yielded ops t) = true := by
  unfold Region.wanted
  rw [h]
  unfold yielded
  simp only [hg, Option.bind_some, hd]
  rw [Array.getD_eq_getD_getElem?] at hv
  cases hx : t[d]? with
  | none => rw [hx] at hv; simp [undef] at hv
  | some v => rw [hx] at hv; simp only [Option.getD_some] at hv; subst hv; rfl
variable {s : Act} {x : World} {pos : String} {af : Array Edge} {g : Option (Nat × Bool)} {K : Act → World → Prop} {Q : Exit → Act → World → Prop}
theorem st_load (t d b n : Nat) (he : s.tmps.getD t undef = .pointer (some ⟨b, 0, none⟩)) (hr : x.rowIs b 24 4 (u64s (limb n))) (hK : K (s.put (some d) (wv n)) x) :
    Oper.wp Try.prog { dst := some d, op := .load 24 (.tmp t), type := 24, pos := pos, after := af, guard := g } s x K Q := by
  obtain ⟨y0, y1, y2, y3⟩ := row_cells4 hr
  have he2 : s.eval (.tmp t) = .pointer (some ⟨b, 0, none⟩) := he
  go_simp
  exact hK
theorem st_eql (t u d m n : Nat) (r : Bool) (he : s.tmps.getD t undef = wv m) (hu : s.tmps.getD u undef = wv n) (hr : eqw m n = r) (hK : K (s.put (some d) (.bool r)) x) {ty : TypeId} :
    Oper.wp Try.prog { dst := some d, op := .binOp .eql 24 (.tmp t) (.tmp u) 24, type := ty, pos := pos, after := af, guard := g } s x K Q := by
  have he2 : s.eval (.tmp t) = wv m := he
  have hu2 : s.eval (.tmp u) = wv n := hu
  have hq : ∀ w, (Op.equalIn 10000 24 (wv m) (wv n)).run Try.prog w = .ok r w := fun w => by rw [eq_words, hr]
  go_simp
  exact hK
theorem st_move (t d : Nat) (v : Value) (he : s.tmps.getD t undef = v) (hK : K (s.put (some d) v) x) {ty : TypeId} :
    Oper.wp Try.prog { dst := some d, op := .move (.tmp t), type := ty, pos := pos, after := af, guard := g } s x K Q := by
  have he2 : s.eval (.tmp t) = v := he
  go_simp
  rw [he] at *
  exact hK
theorem st_assign (t d : Nat) (v : Value) (he : s.tmps.getD t undef = v) (hK : K (s.put (some d) v) x) {ty : TypeId} :
    Oper.wp Try.prog { dst := some d, op := .assign (.tmp t), type := ty, pos := pos, after := af, guard := g } s x K Q := by
  have he2 : s.eval (.tmp t) = v := he
  go_simp
  rw [he] at *
  exact hK
theorem st_pick (t u d : Nat) (he : s.tmps.getD t undef = .bool true) (hu : s.tmps.getD u undef = .bool true) (hK : K (s.put (some d) (.bool true)) x) {ty : TypeId} :
    Oper.wp Try.prog { dst := some d, op := .pick (.tmp t) (.tmp u) (.const (.bool false)), type := ty, pos := pos, after := af, guard := g } s x K Q := by
  have he2 : s.eval (.tmp t) = .bool true := he
  have hu2 : s.eval (.tmp u) = .bool true := hu
  go_simp
  exact hK
theorem st_calc (op t u v d m n l r : Nat) (ho : op ≤ 255) (hoo : ferr op = 0) (he : s.tmps.getD t undef = wv m) (hu : s.tmps.getD u undef = wv n) (hv : s.tmps.getD v undef = wv l) (hr : Hid (r = fcalc op (m % M) (n % M) (l % M))) (hK : ∀ x', Below x.heap.size x x' → K (s.put (some d) (wv r)) x') :
    Oper.wp Try.prog { dst := some d, op := .call { callee := .value (.func 9), args := #[.const (.int .u8 (op : Int)), .tmp t, .tmp u, .tmp v], argTypes := #[5, 24, 24, 24] }, type := 24, pos := pos, after := af, guard := g } s x K Q := by
  have he2 : s.eval (.tmp t) = wv m := he
  have hu2 : s.eval (.tmp u) = wv n := hu
  have hv2 : s.eval (.tmp v) = wv l := hv
  have HO : Hid (ferr op = 0) := hoo
  clear hoo
  go_simp
  refine (kcalc_any op ho HO m n l _).mono ?_
  rintro e y ⟨rr, HRR, rfl, hb⟩
  obtain rfl : r = rr := hr.out.trans HRR.out.symm
  exact hK y hb
theorem st_sum (t u d m n r : Nat) (he : s.tmps.getD t undef = wv m) (hu : s.tmps.getD u undef = wv n) (hr : Hid (r = fadd (m % M) (n % M))) (hK : ∀ x', Below x.heap.size x x' → K (s.put (some d) (wv r)) x') :
    Oper.wp Try.prog { dst := some d, op := .call { callee := .value (.func 10), args := #[.tmp t, .tmp u], argTypes := #[24, 24] }, type := 24, pos := pos, after := af, guard := g } s x K Q := by
  have he2 : s.eval (.tmp t) = wv m := he
  have hu2 : s.eval (.tmp u) = wv n := hu
  go_simp
  refine (ksum_any m n _).mono ?_
  rintro e y ⟨rr, HRR, rfl, hb⟩
  obtain rfl : r = rr := hr.out.trans HRR.out.symm
  exact hK y hb
theorem st_small (t d k : Nat) (he : s.tmps.getD t undef = .int .i64 (k : Int)) (hk : k < 9223372036854775808) (hK : ∀ x', Below x.heap.size x x' → K (s.put (some d) (wv k)) x') :
    Oper.wp Try.prog { dst := some d, op := .call { callee := .value (.func 8), args := #[.tmp t], argTypes := #[3] }, type := 24, pos := pos, after := af, guard := g } s x K Q := by
  have he2 : s.eval (.tmp t) = .int .i64 (k : Int) := he
  go_simp
  refine (ksmall_any k hk _).mono ?_
  rintro e y ⟨rr, HRR, rfl, hb⟩
  rw [HRR.out]
  exact hK y hb
theorem st_small_c (c : Int) (d k : Nat) (hc : c = (k : Int)) (hk : k < 9223372036854775808) (hK : ∀ x', Below x.heap.size x x' → K (s.put (some d) (wv k)) x') :
    Oper.wp Try.prog { dst := some d, op := .call { callee := .value (.func 8), args := #[.const (.int .i64 c)], argTypes := #[3] }, type := 24, pos := pos, after := af, guard := g } s x K Q := by
  subst hc
  go_simp
  refine (ksmall_any k hk _).mono ?_
  rintro e y ⟨rr, HRR, rfl, hb⟩
  rw [HRR.out]
  exact hK y hb
end cin
end Go.Proofs.Ytohoajjdoihekaa
