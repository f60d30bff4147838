/-
  More single operations, run against a frame that is a variable: small integers, and words that differ.
-/
import Derived.Test.YtohoajjdoihekaaNew
set_option linter.unusedVariables false
set_option linter.unusedSimpArgs false
namespace Go.Proofs.Ytohoajjdoihekaa
open Go.RowKit
namespace cin
set_option maxRecDepth 100000
theorem wrap_small (z : Int) (h0 : 0 ≤ z) (h1 : z ≤ 20000) : IntKind.i64.wrap z = z := by
  rw [IntKind.wrap_i64]
  omega
variable {s : Act} {x : World} {pos : String} {af : Array Edge} {g : Option (Nat × Bool)} {K : Act → World → Prop} {Q : Exit → Act → World → Prop}
theorem st_neq (t u d m n : Nat) (he : s.tmps.getD t undef = wv m) (hu : s.tmps.getD u undef = wv n) (hr : eqw m n = false) (hK : K (s.put (some d) (.bool true)) x) {ty : TypeId} :
    Oper.wp Try.prog { dst := some d, op := .binOp .neq 24 (.tmp t) (.tmp u) 24, type := ty, pos := pos, after := af, guard := g } s x K Q := by
  have he2 : s.eval (.tmp t) = wv m := he
  have hu2 : s.eval (.tmp u) = wv n := hu
  have hq : ∀ w, (Op.equalIn 10000 24 (wv m) (wv n)).run Try.prog w = .ok false w := fun w => by rw [eq_words, hr]
  go_simp
  exact hK
theorem st_add1 (t d k c : Nat) (hk : k < 200) (hc : c < 100) (he : s.tmps.getD t undef = .int .i64 (k : Int)) (hK : K (s.put (some d) (.int .i64 ((k + c : Nat) : Int))) x) {ty : TypeId} :
    Oper.wp Try.prog { dst := some d, op := .binOp .add 3 (.tmp t) (.const (.int .i64 (c : Int))) 3, type := ty, pos := pos, after := af, guard := g } s x K Q := by
  have he2 : s.eval (.tmp t) = .int .i64 (k : Int) := he
  rw [Int.natCast_add] at hK
  have hw := wrap_small ((k : Int) + (c : Int)) (by omega) (by omega)
  go_simp
  exact hK
theorem st_mul1 (t d k c : Nat) (hk : k < 200) (hc : c < 100) (he : s.tmps.getD t undef = .int .i64 (k : Int)) (hK : K (s.put (some d) (.int .i64 ((c * k : Nat) : Int))) x) {ty : TypeId} :
    Oper.wp Try.prog { dst := some d, op := .binOp .mul 3 (.const (.int .i64 (c : Int))) (.tmp t) 3, type := ty, pos := pos, after := af, guard := g } s x K Q := by
  have he2 : s.eval (.tmp t) = .int .i64 (k : Int) := he
  have hb : c * k ≤ 100 * 200 := Nat.mul_le_mul (by omega) (by omega)
  have hb2 : (c : Int) * (k : Int) ≤ 20000 := by have : ((c * k : Nat) : Int) ≤ 20000 := by omega
                                                 rwa [Int.natCast_mul] at this
  have hb3 : 0 ≤ (c : Int) * (k : Int) := Int.mul_nonneg (by omega) (by omega)
  rw [Int.natCast_mul] at hK
  have hw := wrap_small ((c : Int) * (k : Int)) hb3 hb2
  go_simp
  exact hK
theorem st_quo7 (t d k : Nat) (hk : k < 200) (he : s.tmps.getD t undef = .int .i64 (k : Int)) (hK : K (s.put (some d) (.int .i64 ((k / 7 : Nat) : Int))) x) {ty : TypeId} :
    Oper.wp Try.prog { dst := some d, op := .binOp .quo 3 (.tmp t) (.const (.int .i64 7)) 3, type := ty, pos := pos, after := af, guard := g } s x K Q := by
  have he2 : s.eval (.tmp t) = .int .i64 (k : Int) := he
  rw [Int.natCast_ediv] at hK
  have hw := wrap_small ((k : Int) / 7) (by omega) (by omega)
  go_simp
  exact hK
theorem st_rem7 (t d k : Nat) (_hk : k < 200) (he : s.tmps.getD t undef = .int .i64 (k : Int)) (hK : K (s.put (some d) (.int .i64 ((k % 7 : Nat) : Int))) x) {ty : TypeId} :
    Oper.wp Try.prog { dst := some d, op := .binOp .rem 3 (.tmp t) (.const (.int .i64 7)) 3, type := ty, pos := pos, after := af, guard := g } s x K Q := by
  have he2 : s.eval (.tmp t) = .int .i64 (k : Int) := he
  rw [Int.natCast_emod] at hK
  go_simp
  exact hK
theorem st_eq0 (t d k : Nat) (r : Bool) (hr : ((k : Int) == 0) = r) (he : s.tmps.getD t undef = .int .i64 (k : Int)) (hK : K (s.put (some d) (.bool r)) x) {ty : TypeId} :
    Oper.wp Try.prog { dst := some d, op := .binOp .eql 3 (.tmp t) (.const (.int .i64 0)) 3, type := ty, pos := pos, after := af, guard := g } s x K Q := by
  have he2 : s.eval (.tmp t) = .int .i64 (k : Int) := he
  go_simp
  exact hK
end cin
end Go.Proofs.Ytohoajjdoihekaa
