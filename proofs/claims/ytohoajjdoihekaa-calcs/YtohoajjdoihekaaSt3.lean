/-
  More single operations: guards that stop an operation, and picks.
-/
import Derived.Test.YtohoajjdoihekaaSt2
set_option linter.unusedVariables false
set_option linter.unusedSimpArgs false
namespace Go.Proofs.Ytohoajjdoihekaa
open Go.RowKit
namespace cin
set_option maxRecDepth 100000
theorem want_somef {ops : Array Oper} {o og : Oper} {t : Array Value} {g d : Nat} (h : o.guard = some (g, false)) (hg : ops[g]? = some og) (hd : og.dst = some d) (hv : t.getD d undef = .bool false) : Region.wanted o (yielded ops t) = true := by
  unfold Region.wanted
  rw [h]
  unfold yielded
  simp only [hg, Option.bind_some, hd]
  rw [Array.getD_eq_getD_getElem?] at hv
  cases hx : t[d]? with
  | none => rw [hx] at hv; simp [undef] at hv
  | some v => rw [hx] at hv; simp only [Option.getD_some] at hv; subst hv; rfl
theorem nowant_f {ops : Array Oper} {o og : Oper} {t : Array Value} {g d : Nat} (h : o.guard = some (g, false)) (hg : ops[g]? = some og) (hd : og.dst = some d) (hv : t.getD d undef = .bool true) : Region.wanted o (yielded ops t) = false := by
  unfold Region.wanted
  rw [h]
  unfold yielded
  simp only [hg, Option.bind_some, hd]
  rw [Array.getD_eq_getD_getElem?] at hv
  cases hx : t[d]? with
  | none => rw [hx] at hv; simp [undef] at hv
  | some v => rw [hx] at hv; simp only [Option.getD_some] at hv; subst hv; rfl
theorem nowant_u {ops : Array Oper} {o og : Oper} {t : Array Value} {g d : Nat} {b : Bool} (h : o.guard = some (g, b)) (hg : ops[g]? = some og) (hd : og.dst = some d) (hv : t.getD d undef = undef) : Region.wanted o (yielded ops t) = false := by
  unfold Region.wanted
  rw [h]
  unfold yielded
  simp only [hg, Option.bind_some, hd]
  rw [Array.getD_eq_getD_getElem?] at hv
  cases hx : t[d]? with
  | none => rfl
  | some v => rw [hx] at hv; simp only [Option.getD_some] at hv; subst hv; rfl
variable {s : Act} {x : World} {pos : String} {af : Array Edge} {g : Option (Nat × Bool)} {K : Act → World → Prop} {Q : Exit → Act → World → Prop}
theorem st_pickc (t u d : Nat) (he : s.tmps.getD t undef = .bool true) (hK : K (s.put (some d) (.bool true)) x) {ty : TypeId} :
    Oper.wp Try.prog { dst := some d, op := .pick (.tmp t) (.const (.bool true)) (.tmp u), type := ty, pos := pos, after := af, guard := g } s x K Q := by
  have he2 : s.eval (.tmp t) = .bool true := he
  go_simp
  exact hK
theorem st_picke (t u d : Nat) (he : s.tmps.getD t undef = .bool false) (hu : s.tmps.getD u undef = .bool true) (hK : K (s.put (some d) (.bool true)) x) {ty : TypeId} :
    Oper.wp Try.prog { dst := some d, op := .pick (.tmp t) (.const (.bool true)) (.tmp u), type := ty, pos := pos, after := af, guard := g } s x K Q := by
  have he2 : s.eval (.tmp t) = .bool false := he
  have hu2 : s.eval (.tmp u) = .bool true := hu
  go_simp
  exact hK
end cin
end Go.Proofs.Ytohoajjdoihekaa
