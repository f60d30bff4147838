/-
  Names of instructions, the program's way: all of them.
-/
import Derived.Test.YtohoajjdoihekaaDoorTk
set_option linter.unusedVariables false
set_option linter.unusedSimpArgs false
namespace Go.Proofs.YtohoajjdoihekaaDoor
open Go.RowKit
namespace cin
def named (s : ByteArray) : Option Nat := ((lk tabRec (bl s)).orElse fun _ => lk tabCmp (bl s)).orElse fun _ => (lk tabSur (bl s)).orElse fun _ => (lk tabKee (bl s)).orElse fun _ => inRow s
set_option maxRecDepth 100000 in
set_option maxHeartbeats 2000000 in
theorem named_any (s : ByteArray) (hs : s.size ≤ 2000) (w : World) : Calls Tryd.prog 28 #[.string s] w fun e w' => e = .returned (pr (named s)) ∧ w' = w := by
  obtain ⟨o1, H1⟩ : ∃ o, Hid (o = (lk tabRec (bl s)).orElse fun _ => lk tabCmp (bl s)) := ⟨_, rfl⟩
  obtain ⟨o2, H2⟩ : ∃ o, Hid (o = lk tabSur (bl s)) := ⟨_, rfl⟩
  obtain ⟨o3, H3⟩ : ∃ o, Hid (o = lk tabKee (bl s)) := ⟨_, rfl⟩
  obtain ⟨o4, H4⟩ : ∃ o, Hid (o = inRow s) := ⟨_, rfl⟩
  have HN : Hid (named s = o1.orElse fun _ => o2.orElse fun _ => o3.orElse fun _ => o4) := by show _ = _; rw [H1.out, H2.out, H3.out, H4.out]; rfl
  have C1 : Hid (∀ w, Calls Tryd.prog 39 #[.string s] w fun e w' => e = .returned (pr o1) ∧ w' = w) := fun w => by rw [H1.out]; exact Rec_any s hs w
  have C2 : Hid (∀ w, Calls Tryd.prog 40 #[.string s] w fun e w' => e = .returned (pr o2) ∧ w' = w) := fun w => by rw [H2.out]; exact Sur_any s hs w
  have C3 : Hid (∀ w, Calls Tryd.prog 41 #[.string s] w fun e w' => e = .returned (pr o3) ∧ w' = w) := fun w => by rw [H3.out]; exact Kee_any s hs w
  have C4 : Hid (∀ w, Calls Tryd.prog 42 #[.string s] w fun e w' => e = .returned (pr o4) ∧ w' = w) := fun w => by rw [H4.out]; exact inRow_any s hs w
  clear H1 H2 H3 H4
  go_enter Tryd.func28, Tryd.ntmps28
  go_wp2_with fail
  refine (C1.out _).mono ?_
  rintro e w' ⟨rfl, rfl⟩
  cases o1 with
  | some v =>
    unfold pr
    simp only [Option.getD_some, Option.isSome_some]
    go_wp2
    go_ret2
    exact ⟨by rw [HN.out]; rfl, rfl⟩
  | none =>
    unfold pr
    simp only [Option.getD_none, Option.isSome_none]
    go_wp2_with fail
    refine (C2.out _).mono ?_
    rintro e w' ⟨rfl, rfl⟩
    cases o2 with
    | some v =>
      unfold pr
      simp only [Option.getD_some, Option.isSome_some]
      go_wp2
      go_ret2
      exact ⟨by rw [HN.out]; rfl, rfl⟩
    | none =>
      unfold pr
      simp only [Option.getD_none, Option.isSome_none]
      go_wp2_with fail
      refine (C3.out _).mono ?_
      rintro e w' ⟨rfl, rfl⟩
      cases o3 with
      | some v =>
        unfold pr
        simp only [Option.getD_some, Option.isSome_some]
        go_wp2
        go_ret2
        exact ⟨by rw [HN.out]; rfl, rfl⟩
      | none =>
        unfold pr
        simp only [Option.getD_none, Option.isSome_none]
        go_wp2_with fail
        refine (C4.out _).mono ?_
        rintro e w' ⟨rfl, rfl⟩
        unfold pr
        go_wp2
        go_ret2
        exact ⟨by rw [HN.out]; rfl, rfl⟩
end cin
end Go.Proofs.YtohoajjdoihekaaDoor
