/-
  Names of instructions, the program's way: the switches.
-/
import Derived.Test.YtohoajjdoihekaaDoorTd
set_option linter.unusedVariables false
set_option linter.unusedSimpArgs false
namespace Go.Proofs.YtohoajjdoihekaaDoor
open Go.RowKit
namespace cin
/-- what stands in a table of names -/
def lk : List (List UInt8 × Nat) → List UInt8 → Option Nat
  | [], _ => none
  | (a, v) :: r, l => if l = a then some v else lk r l
theorem lk_hit {a l : List UInt8} {v : Nat} {r : List (List UInt8 × Nat)} (h : l = a) : lk ((a, v) :: r) l = some v := by unfold lk; rw [if_pos h]
theorem lk_miss {a l : List UInt8} {v : Nat} {r : List (List UInt8 × Nat)} (h : ¬ l = a) : lk ((a, v) :: r) l = lk r l := by rw [lk, if_neg h]
/-- a number, and whether there is one -/
def pr (o : Option Nat) : Value := .tuple #[.int .u8 ((o.getD 0 : Nat) : Int), .bool o.isSome]
theorem eqb_true {s : ByteArray} {l : List UInt8} (h : bl s = l) : (s.toList == l) = true := by rw [Go.ByteArray.toList_eq]; exact beq_iff_eq.2 h
theorem eqb_false {s : ByteArray} {l : List UInt8} (h : ¬ bl s = l) : (s.toList == l) = false := by rw [Go.ByteArray.toList_eq]; exact beq_eq_false_iff_ne.2 h
/-- of each name that a table may hold -/
def lkP (s : ByteArray) (P : Option Nat → Prop) : List (List UInt8 × Nat) → Prop
  | [] => P none
  | (a, v) :: r => ((s.toList == a) = true → P (some v)) ∧ ((s.toList == a) = false → lkP s P r)
theorem lk_P (s : ByteArray) (P : Option Nat → Prop) : ∀ t, lkP s P t → P (lk t (bl s))
  | [], h => h
  | (a, v) :: r, h => by
    by_cases e : bl s = a
    · rw [lk_hit e]; exact h.1 (eqb_true e)
    · rw [lk_miss e]; exact lk_P s P r (h.2 (eqb_false e))
def tabCmp : List (List UInt8 × Nat) := [([76, 84], 16), ([71, 84], 17), ([83, 76, 84], 18), ([83, 71, 84], 19), ([69, 81], 20), ([73, 83, 90, 69, 82, 79], 21), ([65, 78, 68], 22), ([79, 82], 23), ([88, 79, 82], 24), ([78, 79, 84], 25), ([66, 89, 84, 69], 26), ([83, 72, 76], 27), ([83, 72, 82], 28), ([83, 65, 82], 29)]
set_option maxRecDepth 100000 in
set_option maxHeartbeats 4000000 in
theorem Cmp_any (s : ByteArray) (hs : s.size ≤ 2000) (w : World) : Calls Tryd.prog 48 #[.string s] w fun e w' => e = .returned (pr (lk tabCmp (bl s))) ∧ w' = w := by
  refine lk_P s (fun o => Calls Tryd.prog 48 #[.string s] w fun e w' => e = .returned (pr o) ∧ w' = w) tabCmp ?_
  simp only [tabCmp, lkP]
  repeat' (with_reducible first | apply And.intro | intro _)
  all_goals as_aux_lemma =>
    go_enter Tryd.func48, Tryd.ntmps48
    go_wp2
    go_ret2
    exact ⟨rfl, rfl⟩
def tabRec : List (List UInt8 × Nat) := [([65, 68, 68], 1), ([77, 85, 76], 2), ([83, 85, 66], 3), ([68, 73, 86], 4), ([83, 68, 73, 86], 5), ([77, 79, 68], 6), ([83, 77, 79, 68], 7), ([65, 68, 68, 77, 79, 68], 8), ([77, 85, 76, 77, 79, 68], 9), ([69, 88, 80], 10), ([83, 73, 71, 78, 69, 88, 84, 69, 78, 68], 11)]
set_option maxRecDepth 100000 in
set_option maxHeartbeats 4000000 in
theorem Rec_any (s : ByteArray) (hs : s.size ≤ 2000) (w : World) : Calls Tryd.prog 39 #[.string s] w fun e w' => e = .returned (pr ((lk tabRec (bl s)).orElse fun _ => lk tabCmp (bl s))) ∧ w' = w := by
  refine lk_P s (fun o => Calls Tryd.prog 39 #[.string s] w fun e w' => e = .returned (pr (o.orElse fun _ => lk tabCmp (bl s))) ∧ w' = w) tabRec ?_
  simp only [tabRec, lkP]
  repeat' (with_reducible first | apply And.intro | intro _)
  all_goals as_aux_lemma =>
    go_enter Tryd.func39, Tryd.ntmps39
    first
    | go_wp2
      go_ret2
      exact ⟨rfl, rfl⟩
    | go_wp2_with fail
      refine (Cmp_any s hs _).mono ?_
      rintro e w' ⟨rfl, rfl⟩
      obtain ⟨o, HO⟩ : ∃ o, Hid (o = lk tabCmp (bl s)) := ⟨_, rfl⟩
      rw [← HO.out]
      unfold pr
      go_wp2
      go_ret2
      exact ⟨by rw [← HO.out]; rfl, rfl⟩
def tabSur : List (List UInt8 × Nat) := [([83, 84, 79, 80], 0), ([65, 68, 68, 82, 69, 83, 83], 48), ([66, 65, 76, 65, 78, 67, 69], 49), ([67, 65, 76, 76, 69, 82], 51), ([67, 65, 76, 76, 86, 65, 76, 85, 69], 52), ([67, 65, 76, 76, 68, 65, 84, 65, 76, 79, 65, 68], 53), ([67, 65, 76, 76, 68, 65, 84, 65, 83, 73, 90, 69], 54), ([67, 65, 76, 76, 68, 65, 84, 65, 67, 79, 80, 89], 55), ([67, 79, 68, 69, 83, 73, 90, 69], 56), ([67, 79, 68, 69, 67, 79, 80, 89], 57), ([82, 69, 84, 85, 82, 78, 68, 65, 84, 65, 83, 73, 90, 69], 61), ([82, 69, 84, 85, 82, 78, 68, 65, 84, 65, 67, 79, 80, 89], 62), ([67, 65, 76, 76], 241), ([82, 69, 84, 85, 82, 78], 243), ([68, 69, 76, 69, 71, 65, 84, 69, 67, 65, 76, 76], 244), ([83, 84, 65, 84, 73, 67, 67, 65, 76, 76], 250), ([82, 69, 86, 69, 82, 84], 253)]
set_option maxRecDepth 100000 in
set_option maxHeartbeats 4000000 in
theorem Sur_any (s : ByteArray) (hs : s.size ≤ 2000) (w : World) : Calls Tryd.prog 40 #[.string s] w fun e w' => e = .returned (pr (lk tabSur (bl s))) ∧ w' = w := by
  refine lk_P s (fun o => Calls Tryd.prog 40 #[.string s] w fun e w' => e = .returned (pr o) ∧ w' = w) tabSur ?_
  simp only [tabSur, lkP]
  repeat' (with_reducible first | apply And.intro | intro _)
  all_goals as_aux_lemma =>
    go_enter Tryd.func40, Tryd.ntmps40
    go_wp2
    go_ret2
    exact ⟨rfl, rfl⟩
def tabKee : List (List UInt8 × Nat) := [([80, 79, 80], 80), ([77, 76, 79, 65, 68], 81), ([77, 83, 84, 79, 82, 69], 82), ([77, 83, 84, 79, 82, 69, 56], 83), ([83, 76, 79, 65, 68], 84), ([83, 83, 84, 79, 82, 69], 85), ([74, 85, 77, 80], 86), ([74, 85, 77, 80, 73], 87), ([80, 67], 88), ([77, 83, 73, 90, 69], 89), ([71, 65, 83], 90), ([74, 85, 77, 80, 68, 69, 83, 84], 91), ([84, 76, 79, 65, 68], 92), ([84, 83, 84, 79, 82, 69], 93), ([77, 67, 79, 80, 89], 94)]
set_option maxRecDepth 100000 in
set_option maxHeartbeats 4000000 in
theorem Kee_any (s : ByteArray) (hs : s.size ≤ 2000) (w : World) : Calls Tryd.prog 41 #[.string s] w fun e w' => e = .returned (pr (lk tabKee (bl s))) ∧ w' = w := by
  refine lk_P s (fun o => Calls Tryd.prog 41 #[.string s] w fun e w' => e = .returned (pr o) ∧ w' = w) tabKee ?_
  simp only [tabKee, lkP]
  repeat' (with_reducible first | apply And.intro | intro _)
  all_goals as_aux_lemma =>
    go_enter Tryd.func41, Tryd.ntmps41
    go_wp2
    go_ret2
    exact ⟨rfl, rfl⟩
end cin
end Go.Proofs.YtohoajjdoihekaaDoor
