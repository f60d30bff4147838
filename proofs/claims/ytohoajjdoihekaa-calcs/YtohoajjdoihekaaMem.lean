/-
  Memory: rows of cells that the call itself has laid, and what becomes of them behind stores and calls.
-/
import Derived.Test.YtohoajjdoihekaaNum2
import Derived.Deep.OwnRows
set_option linter.unusedVariables false
set_option linter.unusedSimpArgs false
namespace Go.Proofs.Ytohoajjdoihekaa
open Go.RowKit
namespace cin
def u64s (f : Nat → Int) : Nat → Value := fun i => .int .u64 (f i)
theorem row_lit4 {w : World} {n : Nat} {t : TypeId} (f : Nat → Int) {x0 x1 x2 x3 : Int} (hn : n = w.heap.size) (h0 : x0 = f 0) (h1 : x1 = f 1) (h2 : x2 = f 2) (h3 : x3 = f 3) :
    (w.alloc (.cells #[.int .u64 x0, .int .u64 x1, .int .u64 x2, .int .u64 x3] t)).rowIs n t 4 (u64s f) := by
  subst hn
  refine World.rowIs_alloc w _ t _ fun i hi => ?_
  subst h0 h1 h2 h3
  rcases k4 hi with rfl | rfl | rfl | rfl <;> rfl
/-- the first k limbs are laid; one more -/
theorem row_step {w : World} {b : Nat} {t : TypeId} {n k : Nat} {f g : Nat → Int} (h : w.rowIs b t n (u64s fun i => if i < k then f i else g i)) {x : Int} (hx : x = f k) :
    (w.setCell ⟨b, k, none⟩ (.int .u64 x)).rowIs b t n (u64s fun i => if i < k + 1 then f i else g i) := by
  subst hx
  refine (h.set k _).congr fun i _ => ?_
  simp only [u64s]
  by_cases e : i = k
  · subst e; simp
  · by_cases l : i < k
    · simp [e, l, Nat.lt_succ_of_lt l]
    · simp [e, l, show ¬ i < k + 1 by omega]
theorem row_cells4 {w : World} {b : Nat} {t : TypeId} {f : Nat → Int} (h : w.rowIs b t 4 (u64s f)) :
    w.cell? ⟨b, 0, none⟩ = some (.int .u64 (f 0)) ∧ w.cell? ⟨b, 1, none⟩ = some (.int .u64 (f 1)) ∧ w.cell? ⟨b, 2, none⟩ = some (.int .u64 (f 2)) ∧ w.cell? ⟨b, 3, none⟩ = some (.int .u64 (f 3)) :=
  ⟨h.cell (by omega), h.cell (by omega), h.cell (by omega), h.cell (by omega)⟩
theorem row_below {w w' : World} {b : Nat} {t : TypeId} {n : Nat} {f : Nat → Value} (h : w.rowIs b t n f) (hb : Below w.heap.size w w') : w'.rowIs b t n f :=
  h.of_block (hb.block b h.lt)
def pick4 (x0 x1 x2 x3 : Int) : Nat → Int := fun i => if i = 0 then x0 else if i = 1 then x1 else if i = 2 then x2 else x3
theorem row_set4 {w : World} {b : Nat} {t : TypeId} {f : Nat → Value} (h : w.rowIs b t 4 f) (x0 x1 x2 x3 : Int) :
    ((((w.setCell ⟨b, 0, none⟩ (.int .u64 x0)).setCell ⟨b, 1, none⟩ (.int .u64 x1)).setCell ⟨b, 2, none⟩ (.int .u64 x2)).setCell ⟨b, 3, none⟩ (.int .u64 x3)).rowIs b t 4 (u64s (pick4 x0 x1 x2 x3)) := by
  refine ((((h.set 0 _).set 1 _).set 2 _).set 3 _).congr fun i hi => ?_
  rcases k4 hi with rfl | rfl | rfl | rfl <;> rfl
theorem row_lit8 {w : World} {n : Nat} {t : TypeId} (f : Nat → Int) {x0 x1 x2 x3 x4 x5 x6 x7 : Int} (hn : n = w.heap.size) (h0 : x0 = f 0) (h1 : x1 = f 1) (h2 : x2 = f 2) (h3 : x3 = f 3) (h4 : x4 = f 4) (h5 : x5 = f 5) (h6 : x6 = f 6) (h7 : x7 = f 7) :
    (w.alloc (.cells #[.int .u64 x0, .int .u64 x1, .int .u64 x2, .int .u64 x3, .int .u64 x4, .int .u64 x5, .int .u64 x6, .int .u64 x7] t)).rowIs n t 8 (u64s f) := by
  subst hn
  refine World.rowIs_alloc w _ t _ fun i hi => ?_
  subst h0 h1 h2 h3 h4 h5 h6 h7
  rcases k8 hi with rfl | rfl | rfl | rfl | rfl | rfl | rfl | rfl <;> rfl
theorem row_cells8 {w : World} {b : Nat} {t : TypeId} {f : Nat → Int} (h : w.rowIs b t 8 (u64s f)) :
    w.cell? ⟨b, 0, none⟩ = some (.int .u64 (f 0)) ∧ w.cell? ⟨b, 1, none⟩ = some (.int .u64 (f 1)) ∧ w.cell? ⟨b, 2, none⟩ = some (.int .u64 (f 2)) ∧ w.cell? ⟨b, 3, none⟩ = some (.int .u64 (f 3)) ∧
    w.cell? ⟨b, 4, none⟩ = some (.int .u64 (f 4)) ∧ w.cell? ⟨b, 5, none⟩ = some (.int .u64 (f 5)) ∧ w.cell? ⟨b, 6, none⟩ = some (.int .u64 (f 6)) ∧ w.cell? ⟨b, 7, none⟩ = some (.int .u64 (f 7)) :=
  ⟨h.cell (by omega), h.cell (by omega), h.cell (by omega), h.cell (by omega), h.cell (by omega), h.cell (by omega), h.cell (by omega), h.cell (by omega)⟩
def pick8 (x0 x1 x2 x3 x4 x5 x6 x7 : Int) : Nat → Int := fun i => if i = 0 then x0 else if i = 1 then x1 else if i = 2 then x2 else if i = 3 then x3 else if i = 4 then x4 else if i = 5 then x5 else if i = 6 then x6 else x7
theorem row_set8 {w : World} {b : Nat} {t : TypeId} {f : Nat → Value} (h : w.rowIs b t 8 f) (x0 x1 x2 x3 x4 x5 x6 x7 : Int) :
    ((((((((w.setCell ⟨b, 0, none⟩ (.int .u64 x0)).setCell ⟨b, 1, none⟩ (.int .u64 x1)).setCell ⟨b, 2, none⟩ (.int .u64 x2)).setCell ⟨b, 3, none⟩ (.int .u64 x3)).setCell ⟨b, 4, none⟩ (.int .u64 x4)).setCell ⟨b, 5, none⟩ (.int .u64 x5)).setCell ⟨b, 6, none⟩ (.int .u64 x6)).setCell ⟨b, 7, none⟩ (.int .u64 x7)).rowIs b t 8 (u64s (pick8 x0 x1 x2 x3 x4 x5 x6 x7)) := by
  refine ((((((((h.set 0 _).set 1 _).set 2 _).set 3 _).set 4 _).set 5 _).set 6 _).set 7 _).congr fun i hi => ?_
  rcases k8 hi with rfl | rfl | rfl | rfl | rfl | rfl | rfl | rfl <;> rfl
def nats (f : Nat → Nat) : Nat → Int := fun i => (f i : Int)
theorem row_upd {w : World} {b : Nat} {t : TypeId} {n : Nat} {f : Nat → Nat} (h : w.rowIs b t n (u64s (nats f))) (p v : Nat) :
    (w.setCell ⟨b, p, none⟩ (.int .u64 (v : Int))).rowIs b t n (u64s (nats (upd f p v))) := by
  refine (h.set p _).congr fun i _ => ?_
  simp only [u64s, nats, upd]
  by_cases e : i = p <;> simp [e]
theorem bal {w w' : World} (h : Below w.heap.size w w') (o : Obj) : Below w.heap.size w (w'.alloc o) := h.alloc h.size o
theorem bcall {w W w' : World} (h : Below w.heap.size w W) (hb : Below W.heap.size W w') : Below w.heap.size w w' := h.trans (hb.mono h.size)
theorem bset {w w' : World} (h : Below w.heap.size w w') {p : Addr} (hp : w.heap.size ≤ p.block) (u : Value) : Below w.heap.size w (w'.setCell p u) := h.setCell hp u
end cin
end Go.Proofs.Ytohoajjdoihekaa
