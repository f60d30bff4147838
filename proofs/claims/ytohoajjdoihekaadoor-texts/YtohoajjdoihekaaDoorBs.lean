/-
  Rows of words and what becomes of them; calls that give a word; single operations against a frame that is a variable.
-/
import Derived.Test.YtohoajjdoihekaaDoorRows
import Derived.Test.YtohoajjdoihekaaDoorNumC
import Derived.Test.YtohoajjdoihekaaDoorPrd
import Derived.WalkKit
import Derived.WalkSpells
import Derived.WalkLawsBesides
import Derived.BigRegion
import Derived.Deep.RegionWith
import Derived.Deep.QuietTactic
import Derived.BigQuiet
set_option linter.unusedVariables false
set_option linter.unusedSimpArgs false
namespace Go.Proofs.YtohoajjdoihekaaDoor
open Go.RowKit
namespace cin
theorem row_put4 {w : World} {b : Nat} {t : TypeId} {g : Nat → Value} (h : w.rowIs b t 4 g) (f : Nat → Int) {x0 x1 x2 x3 : Int} (h0 : x0 = f 0) (h1 : x1 = f 1) (h2 : x2 = f 2) (h3 : x3 = f 3) :
    ((((w.setCell ⟨b, 0, none⟩ (.int .u64 x0)).setCell ⟨b, 1, none⟩ (.int .u64 x1)).setCell ⟨b, 2, none⟩ (.int .u64 x2)).setCell ⟨b, 3, none⟩ (.int .u64 x3)).rowIs b t 4 (u64s f) := by
  subst h0 h1 h2 h3
  refine (row_set4 h _ _ _ _).congr fun i hi => ?_
  rcases k4 hi with rfl | rfl | rfl | rfl <;> rfl
theorem below_put4 {w w' : World} (h : Below w.heap.size w w') {c : Nat} (hc : w.heap.size ≤ c) (v0 v1 v2 v3 : Value) :
    Below w.heap.size w ((((w'.setCell ⟨c, 0, none⟩ v0).setCell ⟨c, 1, none⟩ v1).setCell ⟨c, 2, none⟩ v2).setCell ⟨c, 3, none⟩ v3) :=
  (((h.setCell hc _).setCell hc _).setCell hc _).setCell hc _
def Ret (w : World) (n : Nat) (e : Ending) (w' : World) : Prop := ∃ r : Nat, Hid (r = n) ∧ e = .returned (wv r) ∧ Below w.heap.size w w'
theorem ret_mk {w w' : World} {n r : Nat} (h : r % M = n % M) (hb : Below w.heap.size w w') : Ret w n (.returned (wv r)) w' :=
  ⟨n, rfl, congrArg Ending.returned (wv_congr h), hb⟩
theorem M_le_pow (n : Nat) (h : 256 ≤ n) : M ≤ 2 ^ n := by rw [M_pow]; exact Nat.pow_le_pow_right (by omega) h
theorem lt_pow (a n : Nat) (h : 256 ≤ n) : a % M < 2 ^ n := Nat.lt_of_lt_of_le (Nat.mod_lt _ Mpos) (M_le_pow n h)
theorem neg_mod (a : Nat) : neg (a % M) = neg a := by unfold neg; rw [Nat.mod_mod]
structure SS (w : World) (a b : Nat) (x : World) : Prop where
  ra : x.rowIs w.heap.size 58 4 (u64s (limb a))
  rb : x.rowIs (w.heap.size + 1) 58 4 (u64s (limb b))
  rz : x.rowIs (w.heap.size + 1 + 1) 58 4 (u64s fun _ => 0)
  be : Below w.heap.size w x
theorem SS.drew {w : World} {a b : Nat} {x : World} (h : SS w a b x) : SS w a b x.drew := ⟨h.ra, h.rb, h.rz, h.be.drew⟩
theorem SS.alloc {w : World} {a b : Nat} {x : World} (h : SS w a b x) (o : Obj) : SS w a b (x.alloc o) := ⟨h.ra.alloc _, h.rb.alloc _, h.rz.alloc _, bal h.be _⟩
theorem SS.call {w : World} {a b : Nat} {x y : World} (h : SS w a b x) (hb : Below x.heap.size x y) : SS w a b y := ⟨row_below h.ra hb, row_below h.rb hb, row_below h.rz hb, bcall h.be hb⟩
theorem SS.start (w : World) (a b : Nat) : SS w a b (((w.alloc (.cells #[.int .u64 (limb a 0), .int .u64 (limb a 1), .int .u64 (limb a 2), .int .u64 (limb a 3)] 58)).alloc (.cells #[.int .u64 (limb b 0), .int .u64 (limb b 1), .int .u64 (limb b 2), .int .u64 (limb b 3)] 58)).alloc (.cells #[.int .u64 0, .int .u64 0, .int .u64 0, .int .u64 0] 58)) :=
  ⟨row_lit4 (limb a) rfl rfl rfl rfl rfl |>.alloc _ |>.alloc _, row_lit4 (limb b) (by simp) rfl rfl rfl rfl |>.alloc _, row_lit4 (fun _ => 0) (by simp) rfl rfl rfl rfl, bal (bal (bal (Below.refl _ _) _) _) _⟩
theorem row_ne {x : World} {p p' : Nat} {t t' : TypeId} {n n' : Nat} {f f' : Nat → Value} (h : x.rowIs p t n f) (h' : x.rowIs p' t' n' f') (ht : t ≠ t') : p ≠ p' := by
  rintro rfl
  obtain ⟨c, hb, _, _⟩ := h
  obtain ⟨c', hb', _, _⟩ := h'
  rw [hb] at hb'
  injection hb' with e
  injection e with _ e2
  exact ht e2
theorem small_limbs (n : Nat) (h : n < 18446744073709551616) : limb n 0 = (n : Int) ∧ limb n 1 = 0 ∧ limb n 2 = 0 ∧ limb n 3 = 0 := by
  unfold limb
  rw [pw0, pw1, pw2, pw3]
  refine ⟨?_, ?_, ?_, ?_⟩ <;> omega
set_option maxRecDepth 100000
theorem want_none {ops : Array Oper} {o : Oper} {t : Array Value} (h : o.guard = none) : Region.wanted o (yielded ops t) = true := by unfold Region.wanted; rw [h]
theorem want_some {ops : Array Oper} {o og : Oper} {t : Array Value} {g d : Nat} (h : o.guard = some (g, true)) (hg : ops[g]? = some og) (hd : og.dst = some d) (hv : t.getD d undef = .bool true) : Region.wanted o (yielded ops t) = true := by
  unfold Region.wanted
  rw [h]
  unfold yielded
  simp only [hg, Option.bind_some, hd]
  rw [Array.getD_eq_getD_getElem?] at hv
  cases hx : t[d]? with
  | none => rw [hx] at hv; simp [undef] at hv
  | some v => rw [hx] at hv; simp only [Option.getD_some] at hv; subst hv; rfl
theorem want_somef {ops : Array Oper} {o og : Oper} {t : Array Value} {g d : Nat} (h : o.guard = some (g, false)) (hg : ops[g]? = some og) (hd : og.dst = some d) (hv : t.getD d undef = .bool false) : Region.wanted o (yielded ops t) = true := by
  unfold Region.wanted
  rw [h]
  unfold yielded
  simp only [hg, Option.bind_some, hd]
  rw [Array.getD_eq_getD_getElem?] at hv
  cases hx : t[d]? with
  | none => rw [hx] at hv; simp [undef] at hv
  | some v => rw [hx] at hv; simp only [Option.getD_some] at hv; subst hv; rfl
theorem nowant_f {ops : Array Oper} {o og : Oper} {t : Array Value} {g d : Nat} (h : o.guard = some (g, false)) (hg : ops[g]? = some og) (hd : og.dst = some d) (hv : t.getD d undef = .bool true) : Region.wanted o (yielded ops t) = false := by
  unfold Region.wanted
  rw [h]
  unfold yielded
  simp only [hg, Option.bind_some, hd]
  rw [Array.getD_eq_getD_getElem?] at hv
  cases hx : t[d]? with
  | none => rw [hx] at hv; simp [undef] at hv
  | some v => rw [hx] at hv; simp only [Option.getD_some] at hv; subst hv; rfl
theorem nowant_u {ops : Array Oper} {o og : Oper} {t : Array Value} {g d : Nat} {b : Bool} (h : o.guard = some (g, b)) (hg : ops[g]? = some og) (hd : og.dst = some d) (hv : t.getD d undef = undef) : Region.wanted o (yielded ops t) = false := by
  unfold Region.wanted
  rw [h]
  unfold yielded
  simp only [hg, Option.bind_some, hd]
  rw [Array.getD_eq_getD_getElem?] at hv
  cases hx : t[d]? with
  | none => rfl
  | some v => rw [hx] at hv; simp only [Option.getD_some] at hv; subst hv; rfl
variable {s : Act} {x : World} {pos : String} {af : Array Edge} {g : Option (Nat × Bool)} {K : Act → World → Prop} {Q : Exit → Act → World → Prop}
theorem st_load (t d b n : Nat) (he : s.tmps.getD t undef = .pointer (some ⟨b, 0, none⟩)) (hr : x.rowIs b 58 4 (u64s (limb n))) (hK : K (s.put (some d) (wv n)) x) :
    Oper.wp Tryd.prog { dst := some d, op := .load 58 (.tmp t), type := 58, pos := pos, after := af, guard := g } s x K Q := by
  obtain ⟨y0, y1, y2, y3⟩ := row_cells4 hr
  have he2 : s.eval (.tmp t) = .pointer (some ⟨b, 0, none⟩) := he
  go_simp
  exact hK
theorem st_eql (t u d m n : Nat) (r : Bool) (he : s.tmps.getD t undef = wv m) (hu : s.tmps.getD u undef = wv n) (hr : eqw m n = r) (hK : K (s.put (some d) (.bool r)) x) {ty : TypeId} :
    Oper.wp Tryd.prog { dst := some d, op := .binOp .eql 58 (.tmp t) (.tmp u) 58, type := ty, pos := pos, after := af, guard := g } s x K Q := by
  have he2 : s.eval (.tmp t) = wv m := he
  have hu2 : s.eval (.tmp u) = wv n := hu
  have hq : ∀ w, (Op.equalIn 10000 58 (wv m) (wv n)).run Tryd.prog w = .ok r w := fun w => by rw [eq_words, hr]
  go_simp
  exact hK
theorem st_move (t d : Nat) (v : Value) (he : s.tmps.getD t undef = v) (hK : K (s.put (some d) v) x) {ty : TypeId} :
    Oper.wp Tryd.prog { dst := some d, op := .move (.tmp t), type := ty, pos := pos, after := af, guard := g } s x K Q := by
  have he2 : s.eval (.tmp t) = v := he
  go_simp
  rw [he] at *
  exact hK
theorem st_assign (t d : Nat) (v : Value) (he : s.tmps.getD t undef = v) (hK : K (s.put (some d) v) x) {ty : TypeId} :
    Oper.wp Tryd.prog { dst := some d, op := .assign (.tmp t), type := ty, pos := pos, after := af, guard := g } s x K Q := by
  have he2 : s.eval (.tmp t) = v := he
  go_simp
  rw [he] at *
  exact hK
theorem st_pick (t u d : Nat) (he : s.tmps.getD t undef = .bool true) (hu : s.tmps.getD u undef = .bool true) (hK : K (s.put (some d) (.bool true)) x) {ty : TypeId} :
    Oper.wp Tryd.prog { dst := some d, op := .pick (.tmp t) (.tmp u) (.const (.bool false)), type := ty, pos := pos, after := af, guard := g } s x K Q := by
  have he2 : s.eval (.tmp t) = .bool true := he
  have hu2 : s.eval (.tmp u) = .bool true := hu
  go_simp
  exact hK
theorem st_pickc (t u d : Nat) (he : s.tmps.getD t undef = .bool true) (hK : K (s.put (some d) (.bool true)) x) {ty : TypeId} :
    Oper.wp Tryd.prog { dst := some d, op := .pick (.tmp t) (.const (.bool true)) (.tmp u), type := ty, pos := pos, after := af, guard := g } s x K Q := by
  have he2 : s.eval (.tmp t) = .bool true := he
  go_simp
  exact hK
theorem st_picke (t u d : Nat) (he : s.tmps.getD t undef = .bool false) (hu : s.tmps.getD u undef = .bool true) (hK : K (s.put (some d) (.bool true)) x) {ty : TypeId} :
    Oper.wp Tryd.prog { dst := some d, op := .pick (.tmp t) (.const (.bool true)) (.tmp u), type := ty, pos := pos, after := af, guard := g } s x K Q := by
  have he2 : s.eval (.tmp t) = .bool false := he
  have hu2 : s.eval (.tmp u) = .bool true := hu
  go_simp
  exact hK
end cin
end Go.Proofs.YtohoajjdoihekaaDoor
