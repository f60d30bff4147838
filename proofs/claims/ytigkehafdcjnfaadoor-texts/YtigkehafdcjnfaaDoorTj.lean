/-
  Names of instructions, the program's way: the switches.
-/
import Derived.Test.YtigkehafdcjnfaaDoorTd
set_option linter.unusedVariables false
set_option linter.unusedSimpArgs false
namespace Go.Proofs.YtigkehafdcjnfaaDoor
open Go.RowKit
namespace cin
/-- what stands in a table of names -/
def lk : List (List UInt8 × Nat) → List UInt8 → Option Nat
  | [], _ => none
  | (a, v) :: r, l => if l = a then some v else lk r l
theorem lk_hit {a l : List UInt8} {v : Nat} {r : List (List UInt8 × Nat)} (h : l = a) : lk ((a, v) :: r) l = some v := by unfold lk; rw [if_pos h]
theorem lk_miss {a l : List UInt8} {v : Nat} {r : List (List UInt8 × Nat)} (h : ¬ l = a) : lk ((a, v) :: r) l = lk r l := by rw [lk, if_neg h]
/-- a number, and whether there is one -/
def pr (o : Option Nat) : Value := .tuple #[.int .u8 ((o.getD 0 : Nat) : Int), .bool o.isSome]
theorem eqb_true {s : ByteArray} {l : List UInt8} (h : bl s = l) : (s.toList == l) = true := by rw [Go.ByteArray.toList_eq]; exact beq_iff_eq.2 h
theorem eqb_false {s : ByteArray} {l : List UInt8} (h : ¬ bl s = l) : (s.toList == l) = false := by rw [Go.ByteArray.toList_eq]; exact beq_eq_false_iff_ne.2 h
def tabCmp : List (List UInt8 × Nat) := [([76, 84], 16), ([71, 84], 17), ([83, 76, 84], 18), ([83, 71, 84], 19), ([69, 81], 20), ([73, 83, 90, 69, 82, 79], 21), ([65, 78, 68], 22), ([79, 82], 23), ([88, 79, 82], 24), ([78, 79, 84], 25), ([66, 89, 84, 69], 26), ([83, 72, 76], 27), ([83, 72, 82], 28), ([83, 65, 82], 29)]
set_option maxRecDepth 100000 in
set_option maxHeartbeats 4000000 in
theorem Cmp_any (s : ByteArray) (hs : s.size ≤ 2000) (w : World) : Calls Tryd.prog 48 #[.string s] w fun e w' => e = .returned (pr (lk tabCmp (bl s))) ∧ w' = w := by
  by_cases h0 : bl s = [76, 84]
  · as_aux_lemma =>
    have HR : Hid (lk tabCmp (bl s) = some 16) := by show _ = _; unfold tabCmp; rw [lk_hit h0]
    have e0 := eqb_true h0
    clear h0
    go_enter Tryd.func48, Tryd.ntmps48
    go_wp2
    go_ret2
    exact ⟨by rw [HR.out]; rfl, rfl⟩
  · skip
    by_cases h1 : bl s = [71, 84]
    · as_aux_lemma =>
      have HR : Hid (lk tabCmp (bl s) = some 17) := by show _ = _; unfold tabCmp; rw [lk_miss h0, lk_hit h1]
      have e0 := eqb_false h0
      have e1 := eqb_true h1
      clear h0 h1
      go_enter Tryd.func48, Tryd.ntmps48
      go_wp2
      go_ret2
      exact ⟨by rw [HR.out]; rfl, rfl⟩
    · skip
      by_cases h2 : bl s = [83, 76, 84]
      · as_aux_lemma =>
        have HR : Hid (lk tabCmp (bl s) = some 18) := by show _ = _; unfold tabCmp; rw [lk_miss h0, lk_miss h1, lk_hit h2]
        have e0 := eqb_false h0
        have e1 := eqb_false h1
        have e2 := eqb_true h2
        clear h0 h1 h2
        go_enter Tryd.func48, Tryd.ntmps48
        go_wp2
        go_ret2
        exact ⟨by rw [HR.out]; rfl, rfl⟩
      · skip
        by_cases h3 : bl s = [83, 71, 84]
        · as_aux_lemma =>
          have HR : Hid (lk tabCmp (bl s) = some 19) := by show _ = _; unfold tabCmp; rw [lk_miss h0, lk_miss h1, lk_miss h2, lk_hit h3]
          have e0 := eqb_false h0
          have e1 := eqb_false h1
          have e2 := eqb_false h2
          have e3 := eqb_true h3
          clear h0 h1 h2 h3
          go_enter Tryd.func48, Tryd.ntmps48
          go_wp2
          go_ret2
          exact ⟨by rw [HR.out]; rfl, rfl⟩
        · skip
          by_cases h4 : bl s = [69, 81]
          · as_aux_lemma =>
            have HR : Hid (lk tabCmp (bl s) = some 20) := by show _ = _; unfold tabCmp; rw [lk_miss h0, lk_miss h1, lk_miss h2, lk_miss h3, lk_hit h4]
            have e0 := eqb_false h0
            have e1 := eqb_false h1
            have e2 := eqb_false h2
            have e3 := eqb_false h3
            have e4 := eqb_true h4
            clear h0 h1 h2 h3 h4
            go_enter Tryd.func48, Tryd.ntmps48
            go_wp2
            go_ret2
            exact ⟨by rw [HR.out]; rfl, rfl⟩
          · skip
            by_cases h5 : bl s = [73, 83, 90, 69, 82, 79]
            · as_aux_lemma =>
              have HR : Hid (lk tabCmp (bl s) = some 21) := by show _ = _; unfold tabCmp; rw [lk_miss h0, lk_miss h1, lk_miss h2, lk_miss h3, lk_miss h4, lk_hit h5]
              have e0 := eqb_false h0
              have e1 := eqb_false h1
              have e2 := eqb_false h2
              have e3 := eqb_false h3
              have e4 := eqb_false h4
              have e5 := eqb_true h5
              clear h0 h1 h2 h3 h4 h5
              go_enter Tryd.func48, Tryd.ntmps48
              go_wp2
              go_ret2
              exact ⟨by rw [HR.out]; rfl, rfl⟩
            · skip
              by_cases h6 : bl s = [65, 78, 68]
              · as_aux_lemma =>
                have HR : Hid (lk tabCmp (bl s) = some 22) := by show _ = _; unfold tabCmp; rw [lk_miss h0, lk_miss h1, lk_miss h2, lk_miss h3, lk_miss h4, lk_miss h5, lk_hit h6]
                have e0 := eqb_false h0
                have e1 := eqb_false h1
                have e2 := eqb_false h2
                have e3 := eqb_false h3
                have e4 := eqb_false h4
                have e5 := eqb_false h5
                have e6 := eqb_true h6
                clear h0 h1 h2 h3 h4 h5 h6
                go_enter Tryd.func48, Tryd.ntmps48
                go_wp2
                go_ret2
                exact ⟨by rw [HR.out]; rfl, rfl⟩
              · skip
                by_cases h7 : bl s = [79, 82]
                · as_aux_lemma =>
                  have HR : Hid (lk tabCmp (bl s) = some 23) := by show _ = _; unfold tabCmp; rw [lk_miss h0, lk_miss h1, lk_miss h2, lk_miss h3, lk_miss h4, lk_miss h5, lk_miss h6, lk_hit h7]
                  have e0 := eqb_false h0
                  have e1 := eqb_false h1
                  have e2 := eqb_false h2
                  have e3 := eqb_false h3
                  have e4 := eqb_false h4
                  have e5 := eqb_false h5
                  have e6 := eqb_false h6
                  have e7 := eqb_true h7
                  clear h0 h1 h2 h3 h4 h5 h6 h7
                  go_enter Tryd.func48, Tryd.ntmps48
                  go_wp2
                  go_ret2
                  exact ⟨by rw [HR.out]; rfl, rfl⟩
                · skip
                  by_cases h8 : bl s = [88, 79, 82]
                  · as_aux_lemma =>
                    have HR : Hid (lk tabCmp (bl s) = some 24) := by show _ = _; unfold tabCmp; rw [lk_miss h0, lk_miss h1, lk_miss h2, lk_miss h3, lk_miss h4, lk_miss h5, lk_miss h6, lk_miss h7, lk_hit h8]
                    have e0 := eqb_false h0
                    have e1 := eqb_false h1
                    have e2 := eqb_false h2
                    have e3 := eqb_false h3
                    have e4 := eqb_false h4
                    have e5 := eqb_false h5
                    have e6 := eqb_false h6
                    have e7 := eqb_false h7
                    have e8 := eqb_true h8
                    clear h0 h1 h2 h3 h4 h5 h6 h7 h8
                    go_enter Tryd.func48, Tryd.ntmps48
                    go_wp2
                    go_ret2
                    exact ⟨by rw [HR.out]; rfl, rfl⟩
                  · skip
                    by_cases h9 : bl s = [78, 79, 84]
                    · as_aux_lemma =>
                      have HR : Hid (lk tabCmp (bl s) = some 25) := by show _ = _; unfold tabCmp; rw [lk_miss h0, lk_miss h1, lk_miss h2, lk_miss h3, lk_miss h4, lk_miss h5, lk_miss h6, lk_miss h7, lk_miss h8, lk_hit h9]
                      have e0 := eqb_false h0
                      have e1 := eqb_false h1
                      have e2 := eqb_false h2
                      have e3 := eqb_false h3
                      have e4 := eqb_false h4
                      have e5 := eqb_false h5
                      have e6 := eqb_false h6
                      have e7 := eqb_false h7
                      have e8 := eqb_false h8
                      have e9 := eqb_true h9
                      clear h0 h1 h2 h3 h4 h5 h6 h7 h8 h9
                      go_enter Tryd.func48, Tryd.ntmps48
                      go_wp2
                      go_ret2
                      exact ⟨by rw [HR.out]; rfl, rfl⟩
                    · skip
                      by_cases h10 : bl s = [66, 89, 84, 69]
                      · as_aux_lemma =>
                        have HR : Hid (lk tabCmp (bl s) = some 26) := by show _ = _; unfold tabCmp; rw [lk_miss h0, lk_miss h1, lk_miss h2, lk_miss h3, lk_miss h4, lk_miss h5, lk_miss h6, lk_miss h7, lk_miss h8, lk_miss h9, lk_hit h10]
                        have e0 := eqb_false h0
                        have e1 := eqb_false h1
                        have e2 := eqb_false h2
                        have e3 := eqb_false h3
                        have e4 := eqb_false h4
                        have e5 := eqb_false h5
                        have e6 := eqb_false h6
                        have e7 := eqb_false h7
                        have e8 := eqb_false h8
                        have e9 := eqb_false h9
                        have e10 := eqb_true h10
                        clear h0 h1 h2 h3 h4 h5 h6 h7 h8 h9 h10
                        go_enter Tryd.func48, Tryd.ntmps48
                        go_wp2
                        go_ret2
                        exact ⟨by rw [HR.out]; rfl, rfl⟩
                      · skip
                        by_cases h11 : bl s = [83, 72, 76]
                        · as_aux_lemma =>
                          have HR : Hid (lk tabCmp (bl s) = some 27) := by show _ = _; unfold tabCmp; rw [lk_miss h0, lk_miss h1, lk_miss h2, lk_miss h3, lk_miss h4, lk_miss h5, lk_miss h6, lk_miss h7, lk_miss h8, lk_miss h9, lk_miss h10, lk_hit h11]
                          have e0 := eqb_false h0
                          have e1 := eqb_false h1
                          have e2 := eqb_false h2
                          have e3 := eqb_false h3
                          have e4 := eqb_false h4
                          have e5 := eqb_false h5
                          have e6 := eqb_false h6
                          have e7 := eqb_false h7
                          have e8 := eqb_false h8
                          have e9 := eqb_false h9
                          have e10 := eqb_false h10
                          have e11 := eqb_true h11
                          clear h0 h1 h2 h3 h4 h5 h6 h7 h8 h9 h10 h11
                          go_enter Tryd.func48, Tryd.ntmps48
                          go_wp2
                          go_ret2
                          exact ⟨by rw [HR.out]; rfl, rfl⟩
                        · skip
                          by_cases h12 : bl s = [83, 72, 82]
                          · as_aux_lemma =>
                            have HR : Hid (lk tabCmp (bl s) = some 28) := by show _ = _; unfold tabCmp; rw [lk_miss h0, lk_miss h1, lk_miss h2, lk_miss h3, lk_miss h4, lk_miss h5, lk_miss h6, lk_miss h7, lk_miss h8, lk_miss h9, lk_miss h10, lk_miss h11, lk_hit h12]
                            have e0 := eqb_false h0
                            have e1 := eqb_false h1
                            have e2 := eqb_false h2
                            have e3 := eqb_false h3
                            have e4 := eqb_false h4
                            have e5 := eqb_false h5
                            have e6 := eqb_false h6
                            have e7 := eqb_false h7
                            have e8 := eqb_false h8
                            have e9 := eqb_false h9
                            have e10 := eqb_false h10
                            have e11 := eqb_false h11
                            have e12 := eqb_true h12
                            clear h0 h1 h2 h3 h4 h5 h6 h7 h8 h9 h10 h11 h12
                            go_enter Tryd.func48, Tryd.ntmps48
                            go_wp2
                            go_ret2
                            exact ⟨by rw [HR.out]; rfl, rfl⟩
                          · skip
                            by_cases h13 : bl s = [83, 65, 82]
                            · as_aux_lemma =>
                              have HR : Hid (lk tabCmp (bl s) = some 29) := by show _ = _; unfold tabCmp; rw [lk_miss h0, lk_miss h1, lk_miss h2, lk_miss h3, lk_miss h4, lk_miss h5, lk_miss h6, lk_miss h7, lk_miss h8, lk_miss h9, lk_miss h10, lk_miss h11, lk_miss h12, lk_hit h13]
                              have e0 := eqb_false h0
                              have e1 := eqb_false h1
                              have e2 := eqb_false h2
                              have e3 := eqb_false h3
                              have e4 := eqb_false h4
                              have e5 := eqb_false h5
                              have e6 := eqb_false h6
                              have e7 := eqb_false h7
                              have e8 := eqb_false h8
                              have e9 := eqb_false h9
                              have e10 := eqb_false h10
                              have e11 := eqb_false h11
                              have e12 := eqb_false h12
                              have e13 := eqb_true h13
                              clear h0 h1 h2 h3 h4 h5 h6 h7 h8 h9 h10 h11 h12 h13
                              go_enter Tryd.func48, Tryd.ntmps48
                              go_wp2
                              go_ret2
                              exact ⟨by rw [HR.out]; rfl, rfl⟩
                            · skip
                              have HR : Hid (lk tabCmp (bl s) = none) := by show _ = _; unfold tabCmp; rw [lk_miss h0, lk_miss h1, lk_miss h2, lk_miss h3, lk_miss h4, lk_miss h5, lk_miss h6, lk_miss h7, lk_miss h8, lk_miss h9, lk_miss h10, lk_miss h11, lk_miss h12, lk_miss h13]; rfl
                              have e0 := eqb_false h0
                              have e1 := eqb_false h1
                              have e2 := eqb_false h2
                              have e3 := eqb_false h3
                              have e4 := eqb_false h4
                              have e5 := eqb_false h5
                              have e6 := eqb_false h6
                              have e7 := eqb_false h7
                              have e8 := eqb_false h8
                              have e9 := eqb_false h9
                              have e10 := eqb_false h10
                              have e11 := eqb_false h11
                              have e12 := eqb_false h12
                              have e13 := eqb_false h13
                              clear h0 h1 h2 h3 h4 h5 h6 h7 h8 h9 h10 h11 h12 h13
                              go_enter Tryd.func48, Tryd.ntmps48
                              go_wp2
                              go_ret2
                              exact ⟨by rw [HR.out]; rfl, rfl⟩
def tabRec : List (List UInt8 × Nat) := [([65, 68, 68], 1), ([77, 85, 76], 2), ([83, 85, 66], 3), ([68, 73, 86], 4), ([83, 68, 73, 86], 5), ([77, 79, 68], 6), ([83, 77, 79, 68], 7), ([65, 68, 68, 77, 79, 68], 8), ([77, 85, 76, 77, 79, 68], 9), ([69, 88, 80], 10), ([83, 73, 71, 78, 69, 88, 84, 69, 78, 68], 11)]
set_option maxRecDepth 100000 in
set_option maxHeartbeats 4000000 in
theorem Rec_any (s : ByteArray) (hs : s.size ≤ 2000) (w : World) : Calls Tryd.prog 39 #[.string s] w fun e w' => e = .returned (pr ((lk tabRec (bl s)).orElse fun _ => lk tabCmp (bl s))) ∧ w' = w := by
  by_cases h0 : bl s = [65, 68, 68]
  · as_aux_lemma =>
    have HR : Hid (lk tabRec (bl s) = some 1) := by show _ = _; unfold tabRec; rw [lk_hit h0]
    have e0 := eqb_true h0
    clear h0
    go_enter Tryd.func39, Tryd.ntmps39
    go_wp2
    go_ret2
    exact ⟨by rw [HR.out]; rfl, rfl⟩
  · skip
    by_cases h1 : bl s = [77, 85, 76]
    · as_aux_lemma =>
      have HR : Hid (lk tabRec (bl s) = some 2) := by show _ = _; unfold tabRec; rw [lk_miss h0, lk_hit h1]
      have e0 := eqb_false h0
      have e1 := eqb_true h1
      clear h0 h1
      go_enter Tryd.func39, Tryd.ntmps39
      go_wp2
      go_ret2
      exact ⟨by rw [HR.out]; rfl, rfl⟩
    · skip
      by_cases h2 : bl s = [83, 85, 66]
      · as_aux_lemma =>
        have HR : Hid (lk tabRec (bl s) = some 3) := by show _ = _; unfold tabRec; rw [lk_miss h0, lk_miss h1, lk_hit h2]
        have e0 := eqb_false h0
        have e1 := eqb_false h1
        have e2 := eqb_true h2
        clear h0 h1 h2
        go_enter Tryd.func39, Tryd.ntmps39
        go_wp2
        go_ret2
        exact ⟨by rw [HR.out]; rfl, rfl⟩
      · skip
        by_cases h3 : bl s = [68, 73, 86]
        · as_aux_lemma =>
          have HR : Hid (lk tabRec (bl s) = some 4) := by show _ = _; unfold tabRec; rw [lk_miss h0, lk_miss h1, lk_miss h2, lk_hit h3]
          have e0 := eqb_false h0
          have e1 := eqb_false h1
          have e2 := eqb_false h2
          have e3 := eqb_true h3
          clear h0 h1 h2 h3
          go_enter Tryd.func39, Tryd.ntmps39
          go_wp2
          go_ret2
          exact ⟨by rw [HR.out]; rfl, rfl⟩
        · skip
          by_cases h4 : bl s = [83, 68, 73, 86]
          · as_aux_lemma =>
            have HR : Hid (lk tabRec (bl s) = some 5) := by show _ = _; unfold tabRec; rw [lk_miss h0, lk_miss h1, lk_miss h2, lk_miss h3, lk_hit h4]
            have e0 := eqb_false h0
            have e1 := eqb_false h1
            have e2 := eqb_false h2
            have e3 := eqb_false h3
            have e4 := eqb_true h4
            clear h0 h1 h2 h3 h4
            go_enter Tryd.func39, Tryd.ntmps39
            go_wp2
            go_ret2
            exact ⟨by rw [HR.out]; rfl, rfl⟩
          · skip
            by_cases h5 : bl s = [77, 79, 68]
            · as_aux_lemma =>
              have HR : Hid (lk tabRec (bl s) = some 6) := by show _ = _; unfold tabRec; rw [lk_miss h0, lk_miss h1, lk_miss h2, lk_miss h3, lk_miss h4, lk_hit h5]
              have e0 := eqb_false h0
              have e1 := eqb_false h1
              have e2 := eqb_false h2
              have e3 := eqb_false h3
              have e4 := eqb_false h4
              have e5 := eqb_true h5
              clear h0 h1 h2 h3 h4 h5
              go_enter Tryd.func39, Tryd.ntmps39
              go_wp2
              go_ret2
              exact ⟨by rw [HR.out]; rfl, rfl⟩
            · skip
              by_cases h6 : bl s = [83, 77, 79, 68]
              · as_aux_lemma =>
                have HR : Hid (lk tabRec (bl s) = some 7) := by show _ = _; unfold tabRec; rw [lk_miss h0, lk_miss h1, lk_miss h2, lk_miss h3, lk_miss h4, lk_miss h5, lk_hit h6]
                have e0 := eqb_false h0
                have e1 := eqb_false h1
                have e2 := eqb_false h2
                have e3 := eqb_false h3
                have e4 := eqb_false h4
                have e5 := eqb_false h5
                have e6 := eqb_true h6
                clear h0 h1 h2 h3 h4 h5 h6
                go_enter Tryd.func39, Tryd.ntmps39
                go_wp2
                go_ret2
                exact ⟨by rw [HR.out]; rfl, rfl⟩
              · skip
                by_cases h7 : bl s = [65, 68, 68, 77, 79, 68]
                · as_aux_lemma =>
                  have HR : Hid (lk tabRec (bl s) = some 8) := by show _ = _; unfold tabRec; rw [lk_miss h0, lk_miss h1, lk_miss h2, lk_miss h3, lk_miss h4, lk_miss h5, lk_miss h6, lk_hit h7]
                  have e0 := eqb_false h0
                  have e1 := eqb_false h1
                  have e2 := eqb_false h2
                  have e3 := eqb_false h3
                  have e4 := eqb_false h4
                  have e5 := eqb_false h5
                  have e6 := eqb_false h6
                  have e7 := eqb_true h7
                  clear h0 h1 h2 h3 h4 h5 h6 h7
                  go_enter Tryd.func39, Tryd.ntmps39
                  go_wp2
                  go_ret2
                  exact ⟨by rw [HR.out]; rfl, rfl⟩
                · skip
                  by_cases h8 : bl s = [77, 85, 76, 77, 79, 68]
                  · as_aux_lemma =>
                    have HR : Hid (lk tabRec (bl s) = some 9) := by show _ = _; unfold tabRec; rw [lk_miss h0, lk_miss h1, lk_miss h2, lk_miss h3, lk_miss h4, lk_miss h5, lk_miss h6, lk_miss h7, lk_hit h8]
                    have e0 := eqb_false h0
                    have e1 := eqb_false h1
                    have e2 := eqb_false h2
                    have e3 := eqb_false h3
                    have e4 := eqb_false h4
                    have e5 := eqb_false h5
                    have e6 := eqb_false h6
                    have e7 := eqb_false h7
                    have e8 := eqb_true h8
                    clear h0 h1 h2 h3 h4 h5 h6 h7 h8
                    go_enter Tryd.func39, Tryd.ntmps39
                    go_wp2
                    go_ret2
                    exact ⟨by rw [HR.out]; rfl, rfl⟩
                  · skip
                    by_cases h9 : bl s = [69, 88, 80]
                    · as_aux_lemma =>
                      have HR : Hid (lk tabRec (bl s) = some 10) := by show _ = _; unfold tabRec; rw [lk_miss h0, lk_miss h1, lk_miss h2, lk_miss h3, lk_miss h4, lk_miss h5, lk_miss h6, lk_miss h7, lk_miss h8, lk_hit h9]
                      have e0 := eqb_false h0
                      have e1 := eqb_false h1
                      have e2 := eqb_false h2
                      have e3 := eqb_false h3
                      have e4 := eqb_false h4
                      have e5 := eqb_false h5
                      have e6 := eqb_false h6
                      have e7 := eqb_false h7
                      have e8 := eqb_false h8
                      have e9 := eqb_true h9
                      clear h0 h1 h2 h3 h4 h5 h6 h7 h8 h9
                      go_enter Tryd.func39, Tryd.ntmps39
                      go_wp2
                      go_ret2
                      exact ⟨by rw [HR.out]; rfl, rfl⟩
                    · skip
                      by_cases h10 : bl s = [83, 73, 71, 78, 69, 88, 84, 69, 78, 68]
                      · as_aux_lemma =>
                        have HR : Hid (lk tabRec (bl s) = some 11) := by show _ = _; unfold tabRec; rw [lk_miss h0, lk_miss h1, lk_miss h2, lk_miss h3, lk_miss h4, lk_miss h5, lk_miss h6, lk_miss h7, lk_miss h8, lk_miss h9, lk_hit h10]
                        have e0 := eqb_false h0
                        have e1 := eqb_false h1
                        have e2 := eqb_false h2
                        have e3 := eqb_false h3
                        have e4 := eqb_false h4
                        have e5 := eqb_false h5
                        have e6 := eqb_false h6
                        have e7 := eqb_false h7
                        have e8 := eqb_false h8
                        have e9 := eqb_false h9
                        have e10 := eqb_true h10
                        clear h0 h1 h2 h3 h4 h5 h6 h7 h8 h9 h10
                        go_enter Tryd.func39, Tryd.ntmps39
                        go_wp2
                        go_ret2
                        exact ⟨by rw [HR.out]; rfl, rfl⟩
                      · skip
                        have HR : Hid (lk tabRec (bl s) = none) := by show _ = _; unfold tabRec; rw [lk_miss h0, lk_miss h1, lk_miss h2, lk_miss h3, lk_miss h4, lk_miss h5, lk_miss h6, lk_miss h7, lk_miss h8, lk_miss h9, lk_miss h10]; rfl
                        have e0 := eqb_false h0
                        have e1 := eqb_false h1
                        have e2 := eqb_false h2
                        have e3 := eqb_false h3
                        have e4 := eqb_false h4
                        have e5 := eqb_false h5
                        have e6 := eqb_false h6
                        have e7 := eqb_false h7
                        have e8 := eqb_false h8
                        have e9 := eqb_false h9
                        have e10 := eqb_false h10
                        clear h0 h1 h2 h3 h4 h5 h6 h7 h8 h9 h10
                        go_enter Tryd.func39, Tryd.ntmps39
                        go_wp2_with fail
                        refine (Cmp_any s hs _).mono ?_
                        rintro e w' ⟨rfl, rfl⟩
                        obtain ⟨o, HO⟩ : ∃ o, Hid (o = lk tabCmp (bl s)) := ⟨_, rfl⟩
                        rw [← HO.out]
                        unfold pr
                        go_wp2
                        go_ret2
                        exact ⟨by rw [HR.out, ← HO.out]; rfl, rfl⟩
def tabSur : List (List UInt8 × Nat) := [([83, 84, 79, 80], 0), ([65, 68, 68, 82, 69, 83, 83], 48), ([66, 65, 76, 65, 78, 67, 69], 49), ([67, 65, 76, 76, 69, 82], 51), ([67, 65, 76, 76, 86, 65, 76, 85, 69], 52), ([67, 65, 76, 76, 68, 65, 84, 65, 76, 79, 65, 68], 53), ([67, 65, 76, 76, 68, 65, 84, 65, 83, 73, 90, 69], 54), ([67, 65, 76, 76, 68, 65, 84, 65, 67, 79, 80, 89], 55), ([67, 79, 68, 69, 83, 73, 90, 69], 56), ([67, 79, 68, 69, 67, 79, 80, 89], 57), ([82, 69, 84, 85, 82, 78, 68, 65, 84, 65, 83, 73, 90, 69], 61), ([82, 69, 84, 85, 82, 78, 68, 65, 84, 65, 67, 79, 80, 89], 62), ([67, 65, 76, 76], 241), ([82, 69, 84, 85, 82, 78], 243), ([68, 69, 76, 69, 71, 65, 84, 69, 67, 65, 76, 76], 244), ([83, 84, 65, 84, 73, 67, 67, 65, 76, 76], 250), ([82, 69, 86, 69, 82, 84], 253)]
set_option maxRecDepth 100000 in
set_option maxHeartbeats 4000000 in
theorem Sur_any (s : ByteArray) (hs : s.size ≤ 2000) (w : World) : Calls Tryd.prog 40 #[.string s] w fun e w' => e = .returned (pr (lk tabSur (bl s))) ∧ w' = w := by
  by_cases h0 : bl s = [83, 84, 79, 80]
  · as_aux_lemma =>
    have HR : Hid (lk tabSur (bl s) = some 0) := by show _ = _; unfold tabSur; rw [lk_hit h0]
    have e0 := eqb_true h0
    clear h0
    go_enter Tryd.func40, Tryd.ntmps40
    go_wp2
    go_ret2
    exact ⟨by rw [HR.out]; rfl, rfl⟩
  · skip
    by_cases h1 : bl s = [65, 68, 68, 82, 69, 83, 83]
    · as_aux_lemma =>
      have HR : Hid (lk tabSur (bl s) = some 48) := by show _ = _; unfold tabSur; rw [lk_miss h0, lk_hit h1]
      have e0 := eqb_false h0
      have e1 := eqb_true h1
      clear h0 h1
      go_enter Tryd.func40, Tryd.ntmps40
      go_wp2
      go_ret2
      exact ⟨by rw [HR.out]; rfl, rfl⟩
    · skip
      by_cases h2 : bl s = [66, 65, 76, 65, 78, 67, 69]
      · as_aux_lemma =>
        have HR : Hid (lk tabSur (bl s) = some 49) := by show _ = _; unfold tabSur; rw [lk_miss h0, lk_miss h1, lk_hit h2]
        have e0 := eqb_false h0
        have e1 := eqb_false h1
        have e2 := eqb_true h2
        clear h0 h1 h2
        go_enter Tryd.func40, Tryd.ntmps40
        go_wp2
        go_ret2
        exact ⟨by rw [HR.out]; rfl, rfl⟩
      · skip
        by_cases h3 : bl s = [67, 65, 76, 76, 69, 82]
        · as_aux_lemma =>
          have HR : Hid (lk tabSur (bl s) = some 51) := by show _ = _; unfold tabSur; rw [lk_miss h0, lk_miss h1, lk_miss h2, lk_hit h3]
          have e0 := eqb_false h0
          have e1 := eqb_false h1
          have e2 := eqb_false h2
          have e3 := eqb_true h3
          clear h0 h1 h2 h3
          go_enter Tryd.func40, Tryd.ntmps40
          go_wp2
          go_ret2
          exact ⟨by rw [HR.out]; rfl, rfl⟩
        · skip
          by_cases h4 : bl s = [67, 65, 76, 76, 86, 65, 76, 85, 69]
          · as_aux_lemma =>
            have HR : Hid (lk tabSur (bl s) = some 52) := by show _ = _; unfold tabSur; rw [lk_miss h0, lk_miss h1, lk_miss h2, lk_miss h3, lk_hit h4]
            have e0 := eqb_false h0
            have e1 := eqb_false h1
            have e2 := eqb_false h2
            have e3 := eqb_false h3
            have e4 := eqb_true h4
            clear h0 h1 h2 h3 h4
            go_enter Tryd.func40, Tryd.ntmps40
            go_wp2
            go_ret2
            exact ⟨by rw [HR.out]; rfl, rfl⟩
          · skip
            by_cases h5 : bl s = [67, 65, 76, 76, 68, 65, 84, 65, 76, 79, 65, 68]
            · as_aux_lemma =>
              have HR : Hid (lk tabSur (bl s) = some 53) := by show _ = _; unfold tabSur; rw [lk_miss h0, lk_miss h1, lk_miss h2, lk_miss h3, lk_miss h4, lk_hit h5]
              have e0 := eqb_false h0
              have e1 := eqb_false h1
              have e2 := eqb_false h2
              have e3 := eqb_false h3
              have e4 := eqb_false h4
              have e5 := eqb_true h5
              clear h0 h1 h2 h3 h4 h5
              go_enter Tryd.func40, Tryd.ntmps40
              go_wp2
              go_ret2
              exact ⟨by rw [HR.out]; rfl, rfl⟩
            · skip
              by_cases h6 : bl s = [67, 65, 76, 76, 68, 65, 84, 65, 83, 73, 90, 69]
              · as_aux_lemma =>
                have HR : Hid (lk tabSur (bl s) = some 54) := by show _ = _; unfold tabSur; rw [lk_miss h0, lk_miss h1, lk_miss h2, lk_miss h3, lk_miss h4, lk_miss h5, lk_hit h6]
                have e0 := eqb_false h0
                have e1 := eqb_false h1
                have e2 := eqb_false h2
                have e3 := eqb_false h3
                have e4 := eqb_false h4
                have e5 := eqb_false h5
                have e6 := eqb_true h6
                clear h0 h1 h2 h3 h4 h5 h6
                go_enter Tryd.func40, Tryd.ntmps40
                go_wp2
                go_ret2
                exact ⟨by rw [HR.out]; rfl, rfl⟩
              · skip
                by_cases h7 : bl s = [67, 65, 76, 76, 68, 65, 84, 65, 67, 79, 80, 89]
                · as_aux_lemma =>
                  have HR : Hid (lk tabSur (bl s) = some 55) := by show _ = _; unfold tabSur; rw [lk_miss h0, lk_miss h1, lk_miss h2, lk_miss h3, lk_miss h4, lk_miss h5, lk_miss h6, lk_hit h7]
                  have e0 := eqb_false h0
                  have e1 := eqb_false h1
                  have e2 := eqb_false h2
                  have e3 := eqb_false h3
                  have e4 := eqb_false h4
                  have e5 := eqb_false h5
                  have e6 := eqb_false h6
                  have e7 := eqb_true h7
                  clear h0 h1 h2 h3 h4 h5 h6 h7
                  go_enter Tryd.func40, Tryd.ntmps40
                  go_wp2
                  go_ret2
                  exact ⟨by rw [HR.out]; rfl, rfl⟩
                · skip
                  by_cases h8 : bl s = [67, 79, 68, 69, 83, 73, 90, 69]
                  · as_aux_lemma =>
                    have HR : Hid (lk tabSur (bl s) = some 56) := by show _ = _; unfold tabSur; rw [lk_miss h0, lk_miss h1, lk_miss h2, lk_miss h3, lk_miss h4, lk_miss h5, lk_miss h6, lk_miss h7, lk_hit h8]
                    have e0 := eqb_false h0
                    have e1 := eqb_false h1
                    have e2 := eqb_false h2
                    have e3 := eqb_false h3
                    have e4 := eqb_false h4
                    have e5 := eqb_false h5
                    have e6 := eqb_false h6
                    have e7 := eqb_false h7
                    have e8 := eqb_true h8
                    clear h0 h1 h2 h3 h4 h5 h6 h7 h8
                    go_enter Tryd.func40, Tryd.ntmps40
                    go_wp2
                    go_ret2
                    exact ⟨by rw [HR.out]; rfl, rfl⟩
                  · skip
                    by_cases h9 : bl s = [67, 79, 68, 69, 67, 79, 80, 89]
                    · as_aux_lemma =>
                      have HR : Hid (lk tabSur (bl s) = some 57) := by show _ = _; unfold tabSur; rw [lk_miss h0, lk_miss h1, lk_miss h2, lk_miss h3, lk_miss h4, lk_miss h5, lk_miss h6, lk_miss h7, lk_miss h8, lk_hit h9]
                      have e0 := eqb_false h0
                      have e1 := eqb_false h1
                      have e2 := eqb_false h2
                      have e3 := eqb_false h3
                      have e4 := eqb_false h4
                      have e5 := eqb_false h5
                      have e6 := eqb_false h6
                      have e7 := eqb_false h7
                      have e8 := eqb_false h8
                      have e9 := eqb_true h9
                      clear h0 h1 h2 h3 h4 h5 h6 h7 h8 h9
                      go_enter Tryd.func40, Tryd.ntmps40
                      go_wp2
                      go_ret2
                      exact ⟨by rw [HR.out]; rfl, rfl⟩
                    · skip
                      by_cases h10 : bl s = [82, 69, 84, 85, 82, 78, 68, 65, 84, 65, 83, 73, 90, 69]
                      · as_aux_lemma =>
                        have HR : Hid (lk tabSur (bl s) = some 61) := by show _ = _; unfold tabSur; rw [lk_miss h0, lk_miss h1, lk_miss h2, lk_miss h3, lk_miss h4, lk_miss h5, lk_miss h6, lk_miss h7, lk_miss h8, lk_miss h9, lk_hit h10]
                        have e0 := eqb_false h0
                        have e1 := eqb_false h1
                        have e2 := eqb_false h2
                        have e3 := eqb_false h3
                        have e4 := eqb_false h4
                        have e5 := eqb_false h5
                        have e6 := eqb_false h6
                        have e7 := eqb_false h7
                        have e8 := eqb_false h8
                        have e9 := eqb_false h9
                        have e10 := eqb_true h10
                        clear h0 h1 h2 h3 h4 h5 h6 h7 h8 h9 h10
                        go_enter Tryd.func40, Tryd.ntmps40
                        go_wp2
                        go_ret2
                        exact ⟨by rw [HR.out]; rfl, rfl⟩
                      · skip
                        by_cases h11 : bl s = [82, 69, 84, 85, 82, 78, 68, 65, 84, 65, 67, 79, 80, 89]
                        · as_aux_lemma =>
                          have HR : Hid (lk tabSur (bl s) = some 62) := by show _ = _; unfold tabSur; rw [lk_miss h0, lk_miss h1, lk_miss h2, lk_miss h3, lk_miss h4, lk_miss h5, lk_miss h6, lk_miss h7, lk_miss h8, lk_miss h9, lk_miss h10, lk_hit h11]
                          have e0 := eqb_false h0
                          have e1 := eqb_false h1
                          have e2 := eqb_false h2
                          have e3 := eqb_false h3
                          have e4 := eqb_false h4
                          have e5 := eqb_false h5
                          have e6 := eqb_false h6
                          have e7 := eqb_false h7
                          have e8 := eqb_false h8
                          have e9 := eqb_false h9
                          have e10 := eqb_false h10
                          have e11 := eqb_true h11
                          clear h0 h1 h2 h3 h4 h5 h6 h7 h8 h9 h10 h11
                          go_enter Tryd.func40, Tryd.ntmps40
                          go_wp2
                          go_ret2
                          exact ⟨by rw [HR.out]; rfl, rfl⟩
                        · skip
                          by_cases h12 : bl s = [67, 65, 76, 76]
                          · as_aux_lemma =>
                            have HR : Hid (lk tabSur (bl s) = some 241) := by show _ = _; unfold tabSur; rw [lk_miss h0, lk_miss h1, lk_miss h2, lk_miss h3, lk_miss h4, lk_miss h5, lk_miss h6, lk_miss h7, lk_miss h8, lk_miss h9, lk_miss h10, lk_miss h11, lk_hit h12]
                            have e0 := eqb_false h0
                            have e1 := eqb_false h1
                            have e2 := eqb_false h2
                            have e3 := eqb_false h3
                            have e4 := eqb_false h4
                            have e5 := eqb_false h5
                            have e6 := eqb_false h6
                            have e7 := eqb_false h7
                            have e8 := eqb_false h8
                            have e9 := eqb_false h9
                            have e10 := eqb_false h10
                            have e11 := eqb_false h11
                            have e12 := eqb_true h12
                            clear h0 h1 h2 h3 h4 h5 h6 h7 h8 h9 h10 h11 h12
                            go_enter Tryd.func40, Tryd.ntmps40
                            go_wp2
                            go_ret2
                            exact ⟨by rw [HR.out]; rfl, rfl⟩
                          · skip
                            by_cases h13 : bl s = [82, 69, 84, 85, 82, 78]
                            · as_aux_lemma =>
                              have HR : Hid (lk tabSur (bl s) = some 243) := by show _ = _; unfold tabSur; rw [lk_miss h0, lk_miss h1, lk_miss h2, lk_miss h3, lk_miss h4, lk_miss h5, lk_miss h6, lk_miss h7, lk_miss h8, lk_miss h9, lk_miss h10, lk_miss h11, lk_miss h12, lk_hit h13]
                              have e0 := eqb_false h0
                              have e1 := eqb_false h1
                              have e2 := eqb_false h2
                              have e3 := eqb_false h3
                              have e4 := eqb_false h4
                              have e5 := eqb_false h5
                              have e6 := eqb_false h6
                              have e7 := eqb_false h7
                              have e8 := eqb_false h8
                              have e9 := eqb_false h9
                              have e10 := eqb_false h10
                              have e11 := eqb_false h11
                              have e12 := eqb_false h12
                              have e13 := eqb_true h13
                              clear h0 h1 h2 h3 h4 h5 h6 h7 h8 h9 h10 h11 h12 h13
                              go_enter Tryd.func40, Tryd.ntmps40
                              go_wp2
                              go_ret2
                              exact ⟨by rw [HR.out]; rfl, rfl⟩
                            · skip
                              by_cases h14 : bl s = [68, 69, 76, 69, 71, 65, 84, 69, 67, 65, 76, 76]
                              · as_aux_lemma =>
                                have HR : Hid (lk tabSur (bl s) = some 244) := by show _ = _; unfold tabSur; rw [lk_miss h0, lk_miss h1, lk_miss h2, lk_miss h3, lk_miss h4, lk_miss h5, lk_miss h6, lk_miss h7, lk_miss h8, lk_miss h9, lk_miss h10, lk_miss h11, lk_miss h12, lk_miss h13, lk_hit h14]
                                have e0 := eqb_false h0
                                have e1 := eqb_false h1
                                have e2 := eqb_false h2
                                have e3 := eqb_false h3
                                have e4 := eqb_false h4
                                have e5 := eqb_false h5
                                have e6 := eqb_false h6
                                have e7 := eqb_false h7
                                have e8 := eqb_false h8
                                have e9 := eqb_false h9
                                have e10 := eqb_false h10
                                have e11 := eqb_false h11
                                have e12 := eqb_false h12
                                have e13 := eqb_false h13
                                have e14 := eqb_true h14
                                clear h0 h1 h2 h3 h4 h5 h6 h7 h8 h9 h10 h11 h12 h13 h14
                                go_enter Tryd.func40, Tryd.ntmps40
                                go_wp2
                                go_ret2
                                exact ⟨by rw [HR.out]; rfl, rfl⟩
                              · skip
                                by_cases h15 : bl s = [83, 84, 65, 84, 73, 67, 67, 65, 76, 76]
                                · as_aux_lemma =>
                                  have HR : Hid (lk tabSur (bl s) = some 250) := by show _ = _; unfold tabSur; rw [lk_miss h0, lk_miss h1, lk_miss h2, lk_miss h3, lk_miss h4, lk_miss h5, lk_miss h6, lk_miss h7, lk_miss h8, lk_miss h9, lk_miss h10, lk_miss h11, lk_miss h12, lk_miss h13, lk_miss h14, lk_hit h15]
                                  have e0 := eqb_false h0
                                  have e1 := eqb_false h1
                                  have e2 := eqb_false h2
                                  have e3 := eqb_false h3
                                  have e4 := eqb_false h4
                                  have e5 := eqb_false h5
                                  have e6 := eqb_false h6
                                  have e7 := eqb_false h7
                                  have e8 := eqb_false h8
                                  have e9 := eqb_false h9
                                  have e10 := eqb_false h10
                                  have e11 := eqb_false h11
                                  have e12 := eqb_false h12
                                  have e13 := eqb_false h13
                                  have e14 := eqb_false h14
                                  have e15 := eqb_true h15
                                  clear h0 h1 h2 h3 h4 h5 h6 h7 h8 h9 h10 h11 h12 h13 h14 h15
                                  go_enter Tryd.func40, Tryd.ntmps40
                                  go_wp2
                                  go_ret2
                                  exact ⟨by rw [HR.out]; rfl, rfl⟩
                                · skip
                                  by_cases h16 : bl s = [82, 69, 86, 69, 82, 84]
                                  · as_aux_lemma =>
                                    have HR : Hid (lk tabSur (bl s) = some 253) := by show _ = _; unfold tabSur; rw [lk_miss h0, lk_miss h1, lk_miss h2, lk_miss h3, lk_miss h4, lk_miss h5, lk_miss h6, lk_miss h7, lk_miss h8, lk_miss h9, lk_miss h10, lk_miss h11, lk_miss h12, lk_miss h13, lk_miss h14, lk_miss h15, lk_hit h16]
                                    have e0 := eqb_false h0
                                    have e1 := eqb_false h1
                                    have e2 := eqb_false h2
                                    have e3 := eqb_false h3
                                    have e4 := eqb_false h4
                                    have e5 := eqb_false h5
                                    have e6 := eqb_false h6
                                    have e7 := eqb_false h7
                                    have e8 := eqb_false h8
                                    have e9 := eqb_false h9
                                    have e10 := eqb_false h10
                                    have e11 := eqb_false h11
                                    have e12 := eqb_false h12
                                    have e13 := eqb_false h13
                                    have e14 := eqb_false h14
                                    have e15 := eqb_false h15
                                    have e16 := eqb_true h16
                                    clear h0 h1 h2 h3 h4 h5 h6 h7 h8 h9 h10 h11 h12 h13 h14 h15 h16
                                    go_enter Tryd.func40, Tryd.ntmps40
                                    go_wp2
                                    go_ret2
                                    exact ⟨by rw [HR.out]; rfl, rfl⟩
                                  · skip
                                    have HR : Hid (lk tabSur (bl s) = none) := by show _ = _; unfold tabSur; rw [lk_miss h0, lk_miss h1, lk_miss h2, lk_miss h3, lk_miss h4, lk_miss h5, lk_miss h6, lk_miss h7, lk_miss h8, lk_miss h9, lk_miss h10, lk_miss h11, lk_miss h12, lk_miss h13, lk_miss h14, lk_miss h15, lk_miss h16]; rfl
                                    have e0 := eqb_false h0
                                    have e1 := eqb_false h1
                                    have e2 := eqb_false h2
                                    have e3 := eqb_false h3
                                    have e4 := eqb_false h4
                                    have e5 := eqb_false h5
                                    have e6 := eqb_false h6
                                    have e7 := eqb_false h7
                                    have e8 := eqb_false h8
                                    have e9 := eqb_false h9
                                    have e10 := eqb_false h10
                                    have e11 := eqb_false h11
                                    have e12 := eqb_false h12
                                    have e13 := eqb_false h13
                                    have e14 := eqb_false h14
                                    have e15 := eqb_false h15
                                    have e16 := eqb_false h16
                                    clear h0 h1 h2 h3 h4 h5 h6 h7 h8 h9 h10 h11 h12 h13 h14 h15 h16
                                    go_enter Tryd.func40, Tryd.ntmps40
                                    go_wp2
                                    go_ret2
                                    exact ⟨by rw [HR.out]; rfl, rfl⟩
def tabKee : List (List UInt8 × Nat) := [([80, 79, 80], 80), ([77, 76, 79, 65, 68], 81), ([77, 83, 84, 79, 82, 69], 82), ([77, 83, 84, 79, 82, 69, 56], 83), ([83, 76, 79, 65, 68], 84), ([83, 83, 84, 79, 82, 69], 85), ([74, 85, 77, 80], 86), ([74, 85, 77, 80, 73], 87), ([80, 67], 88), ([77, 83, 73, 90, 69], 89), ([71, 65, 83], 90), ([74, 85, 77, 80, 68, 69, 83, 84], 91), ([84, 76, 79, 65, 68], 92), ([84, 83, 84, 79, 82, 69], 93), ([77, 67, 79, 80, 89], 94)]
set_option maxRecDepth 100000 in
set_option maxHeartbeats 4000000 in
theorem Kee_any (s : ByteArray) (hs : s.size ≤ 2000) (w : World) : Calls Tryd.prog 41 #[.string s] w fun e w' => e = .returned (pr (lk tabKee (bl s))) ∧ w' = w := by
  by_cases h0 : bl s = [80, 79, 80]
  · as_aux_lemma =>
    have HR : Hid (lk tabKee (bl s) = some 80) := by show _ = _; unfold tabKee; rw [lk_hit h0]
    have e0 := eqb_true h0
    clear h0
    go_enter Tryd.func41, Tryd.ntmps41
    go_wp2
    go_ret2
    exact ⟨by rw [HR.out]; rfl, rfl⟩
  · skip
    by_cases h1 : bl s = [77, 76, 79, 65, 68]
    · as_aux_lemma =>
      have HR : Hid (lk tabKee (bl s) = some 81) := by show _ = _; unfold tabKee; rw [lk_miss h0, lk_hit h1]
      have e0 := eqb_false h0
      have e1 := eqb_true h1
      clear h0 h1
      go_enter Tryd.func41, Tryd.ntmps41
      go_wp2
      go_ret2
      exact ⟨by rw [HR.out]; rfl, rfl⟩
    · skip
      by_cases h2 : bl s = [77, 83, 84, 79, 82, 69]
      · as_aux_lemma =>
        have HR : Hid (lk tabKee (bl s) = some 82) := by show _ = _; unfold tabKee; rw [lk_miss h0, lk_miss h1, lk_hit h2]
        have e0 := eqb_false h0
        have e1 := eqb_false h1
        have e2 := eqb_true h2
        clear h0 h1 h2
        go_enter Tryd.func41, Tryd.ntmps41
        go_wp2
        go_ret2
        exact ⟨by rw [HR.out]; rfl, rfl⟩
      · skip
        by_cases h3 : bl s = [77, 83, 84, 79, 82, 69, 56]
        · as_aux_lemma =>
          have HR : Hid (lk tabKee (bl s) = some 83) := by show _ = _; unfold tabKee; rw [lk_miss h0, lk_miss h1, lk_miss h2, lk_hit h3]
          have e0 := eqb_false h0
          have e1 := eqb_false h1
          have e2 := eqb_false h2
          have e3 := eqb_true h3
          clear h0 h1 h2 h3
          go_enter Tryd.func41, Tryd.ntmps41
          go_wp2
          go_ret2
          exact ⟨by rw [HR.out]; rfl, rfl⟩
        · skip
          by_cases h4 : bl s = [83, 76, 79, 65, 68]
          · as_aux_lemma =>
            have HR : Hid (lk tabKee (bl s) = some 84) := by show _ = _; unfold tabKee; rw [lk_miss h0, lk_miss h1, lk_miss h2, lk_miss h3, lk_hit h4]
            have e0 := eqb_false h0
            have e1 := eqb_false h1
            have e2 := eqb_false h2
            have e3 := eqb_false h3
            have e4 := eqb_true h4
            clear h0 h1 h2 h3 h4
            go_enter Tryd.func41, Tryd.ntmps41
            go_wp2
            go_ret2
            exact ⟨by rw [HR.out]; rfl, rfl⟩
          · skip
            by_cases h5 : bl s = [83, 83, 84, 79, 82, 69]
            · as_aux_lemma =>
              have HR : Hid (lk tabKee (bl s) = some 85) := by show _ = _; unfold tabKee; rw [lk_miss h0, lk_miss h1, lk_miss h2, lk_miss h3, lk_miss h4, lk_hit h5]
              have e0 := eqb_false h0
              have e1 := eqb_false h1
              have e2 := eqb_false h2
              have e3 := eqb_false h3
              have e4 := eqb_false h4
              have e5 := eqb_true h5
              clear h0 h1 h2 h3 h4 h5
              go_enter Tryd.func41, Tryd.ntmps41
              go_wp2
              go_ret2
              exact ⟨by rw [HR.out]; rfl, rfl⟩
            · skip
              by_cases h6 : bl s = [74, 85, 77, 80]
              · as_aux_lemma =>
                have HR : Hid (lk tabKee (bl s) = some 86) := by show _ = _; unfold tabKee; rw [lk_miss h0, lk_miss h1, lk_miss h2, lk_miss h3, lk_miss h4, lk_miss h5, lk_hit h6]
                have e0 := eqb_false h0
                have e1 := eqb_false h1
                have e2 := eqb_false h2
                have e3 := eqb_false h3
                have e4 := eqb_false h4
                have e5 := eqb_false h5
                have e6 := eqb_true h6
                clear h0 h1 h2 h3 h4 h5 h6
                go_enter Tryd.func41, Tryd.ntmps41
                go_wp2
                go_ret2
                exact ⟨by rw [HR.out]; rfl, rfl⟩
              · skip
                by_cases h7 : bl s = [74, 85, 77, 80, 73]
                · as_aux_lemma =>
                  have HR : Hid (lk tabKee (bl s) = some 87) := by show _ = _; unfold tabKee; rw [lk_miss h0, lk_miss h1, lk_miss h2, lk_miss h3, lk_miss h4, lk_miss h5, lk_miss h6, lk_hit h7]
                  have e0 := eqb_false h0
                  have e1 := eqb_false h1
                  have e2 := eqb_false h2
                  have e3 := eqb_false h3
                  have e4 := eqb_false h4
                  have e5 := eqb_false h5
                  have e6 := eqb_false h6
                  have e7 := eqb_true h7
                  clear h0 h1 h2 h3 h4 h5 h6 h7
                  go_enter Tryd.func41, Tryd.ntmps41
                  go_wp2
                  go_ret2
                  exact ⟨by rw [HR.out]; rfl, rfl⟩
                · skip
                  by_cases h8 : bl s = [80, 67]
                  · as_aux_lemma =>
                    have HR : Hid (lk tabKee (bl s) = some 88) := by show _ = _; unfold tabKee; rw [lk_miss h0, lk_miss h1, lk_miss h2, lk_miss h3, lk_miss h4, lk_miss h5, lk_miss h6, lk_miss h7, lk_hit h8]
                    have e0 := eqb_false h0
                    have e1 := eqb_false h1
                    have e2 := eqb_false h2
                    have e3 := eqb_false h3
                    have e4 := eqb_false h4
                    have e5 := eqb_false h5
                    have e6 := eqb_false h6
                    have e7 := eqb_false h7
                    have e8 := eqb_true h8
                    clear h0 h1 h2 h3 h4 h5 h6 h7 h8
                    go_enter Tryd.func41, Tryd.ntmps41
                    go_wp2
                    go_ret2
                    exact ⟨by rw [HR.out]; rfl, rfl⟩
                  · skip
                    by_cases h9 : bl s = [77, 83, 73, 90, 69]
                    · as_aux_lemma =>
                      have HR : Hid (lk tabKee (bl s) = some 89) := by show _ = _; unfold tabKee; rw [lk_miss h0, lk_miss h1, lk_miss h2, lk_miss h3, lk_miss h4, lk_miss h5, lk_miss h6, lk_miss h7, lk_miss h8, lk_hit h9]
                      have e0 := eqb_false h0
                      have e1 := eqb_false h1
                      have e2 := eqb_false h2
                      have e3 := eqb_false h3
                      have e4 := eqb_false h4
                      have e5 := eqb_false h5
                      have e6 := eqb_false h6
                      have e7 := eqb_false h7
                      have e8 := eqb_false h8
                      have e9 := eqb_true h9
                      clear h0 h1 h2 h3 h4 h5 h6 h7 h8 h9
                      go_enter Tryd.func41, Tryd.ntmps41
                      go_wp2
                      go_ret2
                      exact ⟨by rw [HR.out]; rfl, rfl⟩
                    · skip
                      by_cases h10 : bl s = [71, 65, 83]
                      · as_aux_lemma =>
                        have HR : Hid (lk tabKee (bl s) = some 90) := by show _ = _; unfold tabKee; rw [lk_miss h0, lk_miss h1, lk_miss h2, lk_miss h3, lk_miss h4, lk_miss h5, lk_miss h6, lk_miss h7, lk_miss h8, lk_miss h9, lk_hit h10]
                        have e0 := eqb_false h0
                        have e1 := eqb_false h1
                        have e2 := eqb_false h2
                        have e3 := eqb_false h3
                        have e4 := eqb_false h4
                        have e5 := eqb_false h5
                        have e6 := eqb_false h6
                        have e7 := eqb_false h7
                        have e8 := eqb_false h8
                        have e9 := eqb_false h9
                        have e10 := eqb_true h10
                        clear h0 h1 h2 h3 h4 h5 h6 h7 h8 h9 h10
                        go_enter Tryd.func41, Tryd.ntmps41
                        go_wp2
                        go_ret2
                        exact ⟨by rw [HR.out]; rfl, rfl⟩
                      · skip
                        by_cases h11 : bl s = [74, 85, 77, 80, 68, 69, 83, 84]
                        · as_aux_lemma =>
                          have HR : Hid (lk tabKee (bl s) = some 91) := by show _ = _; unfold tabKee; rw [lk_miss h0, lk_miss h1, lk_miss h2, lk_miss h3, lk_miss h4, lk_miss h5, lk_miss h6, lk_miss h7, lk_miss h8, lk_miss h9, lk_miss h10, lk_hit h11]
                          have e0 := eqb_false h0
                          have e1 := eqb_false h1
                          have e2 := eqb_false h2
                          have e3 := eqb_false h3
                          have e4 := eqb_false h4
                          have e5 := eqb_false h5
                          have e6 := eqb_false h6
                          have e7 := eqb_false h7
                          have e8 := eqb_false h8
                          have e9 := eqb_false h9
                          have e10 := eqb_false h10
                          have e11 := eqb_true h11
                          clear h0 h1 h2 h3 h4 h5 h6 h7 h8 h9 h10 h11
                          go_enter Tryd.func41, Tryd.ntmps41
                          go_wp2
                          go_ret2
                          exact ⟨by rw [HR.out]; rfl, rfl⟩
                        · skip
                          by_cases h12 : bl s = [84, 76, 79, 65, 68]
                          · as_aux_lemma =>
                            have HR : Hid (lk tabKee (bl s) = some 92) := by show _ = _; unfold tabKee; rw [lk_miss h0, lk_miss h1, lk_miss h2, lk_miss h3, lk_miss h4, lk_miss h5, lk_miss h6, lk_miss h7, lk_miss h8, lk_miss h9, lk_miss h10, lk_miss h11, lk_hit h12]
                            have e0 := eqb_false h0
                            have e1 := eqb_false h1
                            have e2 := eqb_false h2
                            have e3 := eqb_false h3
                            have e4 := eqb_false h4
                            have e5 := eqb_false h5
                            have e6 := eqb_false h6
                            have e7 := eqb_false h7
                            have e8 := eqb_false h8
                            have e9 := eqb_false h9
                            have e10 := eqb_false h10
                            have e11 := eqb_false h11
                            have e12 := eqb_true h12
                            clear h0 h1 h2 h3 h4 h5 h6 h7 h8 h9 h10 h11 h12
                            go_enter Tryd.func41, Tryd.ntmps41
                            go_wp2
                            go_ret2
                            exact ⟨by rw [HR.out]; rfl, rfl⟩
                          · skip
                            by_cases h13 : bl s = [84, 83, 84, 79, 82, 69]
                            · as_aux_lemma =>
                              have HR : Hid (lk tabKee (bl s) = some 93) := by show _ = _; unfold tabKee; rw [lk_miss h0, lk_miss h1, lk_miss h2, lk_miss h3, lk_miss h4, lk_miss h5, lk_miss h6, lk_miss h7, lk_miss h8, lk_miss h9, lk_miss h10, lk_miss h11, lk_miss h12, lk_hit h13]
                              have e0 := eqb_false h0
                              have e1 := eqb_false h1
                              have e2 := eqb_false h2
                              have e3 := eqb_false h3
                              have e4 := eqb_false h4
                              have e5 := eqb_false h5
                              have e6 := eqb_false h6
                              have e7 := eqb_false h7
                              have e8 := eqb_false h8
                              have e9 := eqb_false h9
                              have e10 := eqb_false h10
                              have e11 := eqb_false h11
                              have e12 := eqb_false h12
                              have e13 := eqb_true h13
                              clear h0 h1 h2 h3 h4 h5 h6 h7 h8 h9 h10 h11 h12 h13
                              go_enter Tryd.func41, Tryd.ntmps41
                              go_wp2
                              go_ret2
                              exact ⟨by rw [HR.out]; rfl, rfl⟩
                            · skip
                              by_cases h14 : bl s = [77, 67, 79, 80, 89]
                              · as_aux_lemma =>
                                have HR : Hid (lk tabKee (bl s) = some 94) := by show _ = _; unfold tabKee; rw [lk_miss h0, lk_miss h1, lk_miss h2, lk_miss h3, lk_miss h4, lk_miss h5, lk_miss h6, lk_miss h7, lk_miss h8, lk_miss h9, lk_miss h10, lk_miss h11, lk_miss h12, lk_miss h13, lk_hit h14]
                                have e0 := eqb_false h0
                                have e1 := eqb_false h1
                                have e2 := eqb_false h2
                                have e3 := eqb_false h3
                                have e4 := eqb_false h4
                                have e5 := eqb_false h5
                                have e6 := eqb_false h6
                                have e7 := eqb_false h7
                                have e8 := eqb_false h8
                                have e9 := eqb_false h9
                                have e10 := eqb_false h10
                                have e11 := eqb_false h11
                                have e12 := eqb_false h12
                                have e13 := eqb_false h13
                                have e14 := eqb_true h14
                                clear h0 h1 h2 h3 h4 h5 h6 h7 h8 h9 h10 h11 h12 h13 h14
                                go_enter Tryd.func41, Tryd.ntmps41
                                go_wp2
                                go_ret2
                                exact ⟨by rw [HR.out]; rfl, rfl⟩
                              · skip
                                have HR : Hid (lk tabKee (bl s) = none) := by show _ = _; unfold tabKee; rw [lk_miss h0, lk_miss h1, lk_miss h2, lk_miss h3, lk_miss h4, lk_miss h5, lk_miss h6, lk_miss h7, lk_miss h8, lk_miss h9, lk_miss h10, lk_miss h11, lk_miss h12, lk_miss h13, lk_miss h14]; rfl
                                have e0 := eqb_false h0
                                have e1 := eqb_false h1
                                have e2 := eqb_false h2
                                have e3 := eqb_false h3
                                have e4 := eqb_false h4
                                have e5 := eqb_false h5
                                have e6 := eqb_false h6
                                have e7 := eqb_false h7
                                have e8 := eqb_false h8
                                have e9 := eqb_false h9
                                have e10 := eqb_false h10
                                have e11 := eqb_false h11
                                have e12 := eqb_false h12
                                have e13 := eqb_false h13
                                have e14 := eqb_false h14
                                clear h0 h1 h2 h3 h4 h5 h6 h7 h8 h9 h10 h11 h12 h13 h14
                                go_enter Tryd.func41, Tryd.ntmps41
                                go_wp2
                                go_ret2
                                exact ⟨by rw [HR.out]; rfl, rfl⟩
end cin
end Go.Proofs.YtigkehafdcjnfaaDoor
