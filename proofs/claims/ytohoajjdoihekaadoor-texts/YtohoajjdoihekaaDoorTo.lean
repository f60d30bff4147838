/-
  Names of instructions, the document's way.
-/
import Derived.Test.YtohoajjdoihekaaDoorTl
import Derived.Test.YtohoajjdoihekaaDoorTn
set_option linter.unusedVariables false
set_option linter.unusedSimpArgs false
namespace Go.Proofs.YtohoajjdoihekaaDoor
open Go.RowKit
namespace cin
def nsA : List ByteArray := [⟨#[83, 84, 79, 80]⟩, ⟨#[65, 68, 68]⟩, ⟨#[77, 85, 76]⟩, ⟨#[83, 85, 66]⟩, ⟨#[68, 73, 86]⟩, ⟨#[83, 68, 73, 86]⟩, ⟨#[77, 79, 68]⟩, ⟨#[83, 77, 79, 68]⟩, ⟨#[65, 68, 68, 77, 79, 68]⟩, ⟨#[77, 85, 76, 77, 79, 68]⟩, ⟨#[69, 88, 80]⟩, ⟨#[83, 73, 71, 78, 69, 88, 84, 69, 78, 68]⟩]
def nsB : List ByteArray := [⟨#[76, 84]⟩, ⟨#[71, 84]⟩, ⟨#[83, 76, 84]⟩, ⟨#[83, 71, 84]⟩, ⟨#[69, 81]⟩, ⟨#[73, 83, 90, 69, 82, 79]⟩, ⟨#[65, 78, 68]⟩, ⟨#[79, 82]⟩, ⟨#[88, 79, 82]⟩, ⟨#[78, 79, 84]⟩, ⟨#[66, 89, 84, 69]⟩, ⟨#[83, 72, 76]⟩, ⟨#[83, 72, 82]⟩, ⟨#[83, 65, 82]⟩]
def nsC : List ByteArray := [⟨#[65, 68, 68, 82, 69, 83, 83]⟩, ⟨#[66, 65, 76, 65, 78, 67, 69]⟩, ⟨#[]⟩, ⟨#[67, 65, 76, 76, 69, 82]⟩, ⟨#[67, 65, 76, 76, 86, 65, 76, 85, 69]⟩, ⟨#[67, 65, 76, 76, 68, 65, 84, 65, 76, 79, 65, 68]⟩, ⟨#[67, 65, 76, 76, 68, 65, 84, 65, 83, 73, 90, 69]⟩, ⟨#[67, 65, 76, 76, 68, 65, 84, 65, 67, 79, 80, 89]⟩, ⟨#[67, 79, 68, 69, 83, 73, 90, 69]⟩, ⟨#[67, 79, 68, 69, 67, 79, 80, 89]⟩, ⟨#[]⟩, ⟨#[]⟩, ⟨#[]⟩, ⟨#[82, 69, 84, 85, 82, 78, 68, 65, 84, 65, 83, 73, 90, 69]⟩, ⟨#[82, 69, 84, 85, 82, 78, 68, 65, 84, 65, 67, 79, 80, 89]⟩]
def nsD : List ByteArray := [⟨#[80, 79, 80]⟩, ⟨#[77, 76, 79, 65, 68]⟩, ⟨#[77, 83, 84, 79, 82, 69]⟩, ⟨#[77, 83, 84, 79, 82, 69, 56]⟩, ⟨#[83, 76, 79, 65, 68]⟩, ⟨#[83, 83, 84, 79, 82, 69]⟩, ⟨#[74, 85, 77, 80]⟩, ⟨#[74, 85, 77, 80, 73]⟩, ⟨#[80, 67]⟩, ⟨#[77, 83, 73, 90, 69]⟩, ⟨#[71, 65, 83]⟩, ⟨#[74, 85, 77, 80, 68, 69, 83, 84]⟩, ⟨#[84, 76, 79, 65, 68]⟩, ⟨#[84, 83, 84, 79, 82, 69]⟩, ⟨#[77, 67, 79, 80, 89]⟩]
def tabZ : List (List UInt8 × Nat) := [([67, 65, 76, 76], 241), ([82, 69, 84, 85, 82, 78], 243), ([68, 69, 76, 69, 71, 65, 84, 69, 67, 65, 76, 76], 244), ([83, 84, 65, 84, 73, 67, 67, 65, 76, 76], 250), ([82, 69, 86, 69, 82, 84], 253)]
/-- the place of a string in a list, from a place on -/
def fnd (ns : List ByteArray) (l : List UInt8) : Nat → Nat → Option Nat
  | 0, _ => none
  | f + 1, i => if bl (ns.getD i ⟨#[]⟩) = l then some i else fnd ns l f (i + 1)
theorem fnd_hit {ns : List ByteArray} {l : List UInt8} {f i : Nat} {c : Option Nat} (h : bl (ns.getD i ⟨#[]⟩) = l) (hf : 0 < f) (hc : fnd ns l f i = c) : c = some i := by
  obtain ⟨g, rfl⟩ : ∃ g, f = g + 1 := ⟨f - 1, by omega⟩
  rw [← hc]; unfold fnd; rw [if_pos h]
theorem fnd_miss {ns : List ByteArray} {l : List UInt8} {f i : Nat} {c : Option Nat} (h : ¬ bl (ns.getD i ⟨#[]⟩) = l) (hf : 0 < f) (hc : fnd ns l f i = c) : fnd ns l (f - 1) (i + 1) = c := by
  obtain ⟨g, rfl⟩ : ∃ g, f = g + 1 := ⟨f - 1, by omega⟩
  rw [← hc]; rw [fnd, if_neg h]; rfl
/-- the numbered ones, from i on -/
def rowR (l : List UInt8) : Nat → Nat → Option Nat
  | 0, _ => none
  | f + 1, i => if l = bl ((⟨#[68, 85, 80]⟩ : ByteArray) ++ dcs i) then some (127 + i) else if l = bl ((⟨#[83, 87, 65, 80]⟩ : ByteArray) ++ dcs i) then some (143 + i) else if i ≤ 5 ∧ l = bl ((⟨#[76, 79, 71]⟩ : ByteArray) ++ dcs (i - 1)) then some (159 + i) else rowR l f (i + 1)
def rnm (s : ByteArray) : Int := match fnd nsA (bl s) 12 0 with
  | some i => (0 : Int) + i
  | none => match fnd nsB (bl s) 14 0 with
    | some i => (16 : Int) + i
    | none => match fnd nsC (bl s) 15 0 with
      | some i => (48 : Int) + i
      | none => match fnd nsD (bl s) 15 0 with
        | some i => (80 : Int) + i
        | none => match rowR (bl s) 16 1 with
          | some v => (v : Int)
          | none => match lk tabZ (bl s) with
            | some v => (v : Int)
            | none => -1
theorem row_strs {w : World} {ns : List ByteArray} {c : Array Value} {n b : Nat} (hb : b = w.heap.size) (hn : c.size = n) (h : ∀ i, i < n → c[i]? = some (.string (ns.getD i ⟨#[]⟩))) : (w.alloc (.cells c 9)).rowIs b 9 n (fun i => .string (ns.getD i ⟨#[]⟩)) := by
  subst hb hn
  exact World.rowIs_alloc w c 9 _ h
theorem strA (w : World) : (w.alloc (.cells #[.string ⟨#[83, 84, 79, 80]⟩, .string ⟨#[65, 68, 68]⟩, .string ⟨#[77, 85, 76]⟩, .string ⟨#[83, 85, 66]⟩, .string ⟨#[68, 73, 86]⟩, .string ⟨#[83, 68, 73, 86]⟩, .string ⟨#[77, 79, 68]⟩, .string ⟨#[83, 77, 79, 68]⟩, .string ⟨#[65, 68, 68, 77, 79, 68]⟩, .string ⟨#[77, 85, 76, 77, 79, 68]⟩, .string ⟨#[69, 88, 80]⟩, .string ⟨#[83, 73, 71, 78, 69, 88, 84, 69, 78, 68]⟩] 9)).rowIs w.heap.size 9 12 (fun i => .string (nsA.getD i ⟨#[]⟩)) := by
  refine row_strs rfl rfl fun i hi => ?_
  rcases (by omega : i = 0 ∨ i = 1 ∨ i = 2 ∨ i = 3 ∨ i = 4 ∨ i = 5 ∨ i = 6 ∨ i = 7 ∨ i = 8 ∨ i = 9 ∨ i = 10 ∨ i = 11) with rfl | rfl | rfl | rfl | rfl | rfl | rfl | rfl | rfl | rfl | rfl | rfl <;> rfl
theorem strB (w : World) : (w.alloc (.cells #[.string ⟨#[76, 84]⟩, .string ⟨#[71, 84]⟩, .string ⟨#[83, 76, 84]⟩, .string ⟨#[83, 71, 84]⟩, .string ⟨#[69, 81]⟩, .string ⟨#[73, 83, 90, 69, 82, 79]⟩, .string ⟨#[65, 78, 68]⟩, .string ⟨#[79, 82]⟩, .string ⟨#[88, 79, 82]⟩, .string ⟨#[78, 79, 84]⟩, .string ⟨#[66, 89, 84, 69]⟩, .string ⟨#[83, 72, 76]⟩, .string ⟨#[83, 72, 82]⟩, .string ⟨#[83, 65, 82]⟩] 9)).rowIs w.heap.size 9 14 (fun i => .string (nsB.getD i ⟨#[]⟩)) := by
  refine row_strs rfl rfl fun i hi => ?_
  rcases (by omega : i = 0 ∨ i = 1 ∨ i = 2 ∨ i = 3 ∨ i = 4 ∨ i = 5 ∨ i = 6 ∨ i = 7 ∨ i = 8 ∨ i = 9 ∨ i = 10 ∨ i = 11 ∨ i = 12 ∨ i = 13) with rfl | rfl | rfl | rfl | rfl | rfl | rfl | rfl | rfl | rfl | rfl | rfl | rfl | rfl <;> rfl
theorem strC (w : World) : (w.alloc (.cells #[.string ⟨#[65, 68, 68, 82, 69, 83, 83]⟩, .string ⟨#[66, 65, 76, 65, 78, 67, 69]⟩, .string ⟨#[]⟩, .string ⟨#[67, 65, 76, 76, 69, 82]⟩, .string ⟨#[67, 65, 76, 76, 86, 65, 76, 85, 69]⟩, .string ⟨#[67, 65, 76, 76, 68, 65, 84, 65, 76, 79, 65, 68]⟩, .string ⟨#[67, 65, 76, 76, 68, 65, 84, 65, 83, 73, 90, 69]⟩, .string ⟨#[67, 65, 76, 76, 68, 65, 84, 65, 67, 79, 80, 89]⟩, .string ⟨#[67, 79, 68, 69, 83, 73, 90, 69]⟩, .string ⟨#[67, 79, 68, 69, 67, 79, 80, 89]⟩, .string ⟨#[]⟩, .string ⟨#[]⟩, .string ⟨#[]⟩, .string ⟨#[82, 69, 84, 85, 82, 78, 68, 65, 84, 65, 83, 73, 90, 69]⟩, .string ⟨#[82, 69, 84, 85, 82, 78, 68, 65, 84, 65, 67, 79, 80, 89]⟩] 9)).rowIs w.heap.size 9 15 (fun i => .string (nsC.getD i ⟨#[]⟩)) := by
  refine row_strs rfl rfl fun i hi => ?_
  rcases (by omega : i = 0 ∨ i = 1 ∨ i = 2 ∨ i = 3 ∨ i = 4 ∨ i = 5 ∨ i = 6 ∨ i = 7 ∨ i = 8 ∨ i = 9 ∨ i = 10 ∨ i = 11 ∨ i = 12 ∨ i = 13 ∨ i = 14) with rfl | rfl | rfl | rfl | rfl | rfl | rfl | rfl | rfl | rfl | rfl | rfl | rfl | rfl | rfl <;> rfl
theorem strD (w : World) : (w.alloc (.cells #[.string ⟨#[80, 79, 80]⟩, .string ⟨#[77, 76, 79, 65, 68]⟩, .string ⟨#[77, 83, 84, 79, 82, 69]⟩, .string ⟨#[77, 83, 84, 79, 82, 69, 56]⟩, .string ⟨#[83, 76, 79, 65, 68]⟩, .string ⟨#[83, 83, 84, 79, 82, 69]⟩, .string ⟨#[74, 85, 77, 80]⟩, .string ⟨#[74, 85, 77, 80, 73]⟩, .string ⟨#[80, 67]⟩, .string ⟨#[77, 83, 73, 90, 69]⟩, .string ⟨#[71, 65, 83]⟩, .string ⟨#[74, 85, 77, 80, 68, 69, 83, 84]⟩, .string ⟨#[84, 76, 79, 65, 68]⟩, .string ⟨#[84, 83, 84, 79, 82, 69]⟩, .string ⟨#[77, 67, 79, 80, 89]⟩] 9)).rowIs w.heap.size 9 15 (fun i => .string (nsD.getD i ⟨#[]⟩)) := by
  refine row_strs rfl rfl fun i hi => ?_
  rcases (by omega : i = 0 ∨ i = 1 ∨ i = 2 ∨ i = 3 ∨ i = 4 ∨ i = 5 ∨ i = 6 ∨ i = 7 ∨ i = 8 ∨ i = 9 ∨ i = 10 ∨ i = 11 ∨ i = 12 ∨ i = 13 ∨ i = 14) with rfl | rfl | rfl | rfl | rfl | rfl | rfl | rfl | rfl | rfl | rfl | rfl | rfl | rfl | rfl <;> rfl
set_option maxRecDepth 100000 in
set_option maxHeartbeats 8000000 in
theorem rnamed_any (s : ByteArray) (hs : s.size ≤ 2000) (hne : Hid (s.size ≠ 0)) (w : World) : Calls Tryd.prog 22 #[.string s] w fun e w' => e = .returned (.int .i64 (rnm s)) ∧ Below w.heap.size w w' := by
  have hem : s.toList.isEmpty = false := by
    rw [Go.ByteArray.toList_eq]
    cases hx : s.data.toList with
    | nil => exact absurd (show s.size = 0 by show s.data.size = 0; rw [← Array.length_toList, hx]; rfl) hne.out
    | cons a r => rfl
  go_enter Tryd.func22, Tryd.ntmps22
  have hrow := strA w
  have hbel := bal (Below.refl _ w) (.cells #[.string ⟨#[83, 84, 79, 80]⟩, .string ⟨#[65, 68, 68]⟩, .string ⟨#[77, 85, 76]⟩, .string ⟨#[83, 85, 66]⟩, .string ⟨#[68, 73, 86]⟩, .string ⟨#[83, 68, 73, 86]⟩, .string ⟨#[77, 79, 68]⟩, .string ⟨#[83, 77, 79, 68]⟩, .string ⟨#[65, 68, 68, 77, 79, 68]⟩, .string ⟨#[77, 85, 76, 77, 79, 68]⟩, .string ⟨#[69, 88, 80]⟩, .string ⟨#[83, 73, 71, 78, 69, 88, 84, 69, 78, 68]⟩] 9)
  go_wp2
  go_loopw [4] (fun tt wr => ∃ i : Nat, i ≤ 12 ∧ tt = .int .i64 i ∧ wr.rowIs (w.heap.size) 9 12 (fun i => .string (nsA.getD i ⟨#[]⟩)) ∧ Hid (fnd nsA (bl s) (12 - i) i = fnd nsA (bl s) 12 0) ∧ Below w.heap.size w wr) (fun tt _ => 12 - (intOf tt).toNat)
  case atStart => exact ⟨0, by omega, rfl, hrow, rfl, hbel⟩
  case round =>
    clear hrow hbel
    obtain ⟨i, hi, rfl, hrow, HF, hbel⟩ := hrel
    by_cases hlt : i < 12
    · as_aux_lemma =>
      have hdi : decide ((i : Int) < 12) = true := by simp; omega
      have hc := hrow.cell hlt
      generalize hgt : nsA.getD i ⟨#[]⟩ = t at *
      by_cases h1 : bl t = bl s
      · have HR : Hid (rnm s = (0 : Int) + (i : Int)) := by show _ = _; unfold rnm; rw [fnd_hit (f := 12 - i) (by rw [hgt]; exact h1) (by omega) HF.out]
        have e1 := eqs_true h1
        clear h1 hgt
        go_wp2
        go_ret
        exact ⟨by rw [HR.out]; first | rfl | simp, hbel⟩
      · have HF2 : Hid (fnd nsA (bl s) (12 - (i + 1)) (i + 1) = fnd nsA (bl s) 12 0) := by have h := fnd_miss (f := 12 - i) (by rw [hgt]; exact h1) (by omega) HF.out; rw [Nat.sub_sub] at h; exact h
        have e1 := eqs_false h1
        clear h1
        go_wp2
        go_roundw
        case rel => exact ⟨i + 1, by omega, by go_num, hrow, HF2, hbel⟩
        case measure => simp [intOf]; omega
    · obtain rfl : i = 12 := by omega
      have HNA : Hid (fnd nsA (bl s) 12 0 = none) := HF.out.symm.trans rfl
      rw [show ((12 : Nat) : Int) = 12 from rfl]
      obtain ⟨w1, rfl⟩ : ∃ w', w' = wr := ⟨_, rfl⟩
      clear HF hrow
      have hrow := strB w1
      replace hbel := bal hbel (.cells #[.string ⟨#[76, 84]⟩, .string ⟨#[71, 84]⟩, .string ⟨#[83, 76, 84]⟩, .string ⟨#[83, 71, 84]⟩, .string ⟨#[69, 81]⟩, .string ⟨#[73, 83, 90, 69, 82, 79]⟩, .string ⟨#[65, 78, 68]⟩, .string ⟨#[79, 82]⟩, .string ⟨#[88, 79, 82]⟩, .string ⟨#[78, 79, 84]⟩, .string ⟨#[66, 89, 84, 69]⟩, .string ⟨#[83, 72, 76]⟩, .string ⟨#[83, 72, 82]⟩, .string ⟨#[83, 65, 82]⟩] 9)
      go_wp2
      generalize w1.heap.size = b1 at *
      go_loopw [5] (fun tt wr => ∃ i : Nat, i ≤ 14 ∧ tt = .int .i64 i ∧ wr.rowIs (b1) 9 14 (fun i => .string (nsB.getD i ⟨#[]⟩)) ∧ Hid (fnd nsB (bl s) (14 - i) i = fnd nsB (bl s) 14 0) ∧ Below w.heap.size w wr) (fun tt _ => 14 - (intOf tt).toNat)
      case atStart => exact ⟨0, by omega, rfl, hrow, rfl, hbel⟩
      case round =>
        clear hrow hbel
        obtain ⟨i, hi, rfl, hrow, HF, hbel⟩ := hrel
        by_cases hlt : i < 14
        · as_aux_lemma =>
          have hdi : decide ((i : Int) < 14) = true := by simp; omega
          have hc := hrow.cell hlt
          generalize hgt : nsB.getD i ⟨#[]⟩ = t at *
          by_cases h1 : bl t = bl s
          · have HR : Hid (rnm s = (16 : Int) + (i : Int)) := by show _ = _; unfold rnm; rw [HNA.out]; dsimp only; rw [fnd_hit (f := 14 - i) (by rw [hgt]; exact h1) (by omega) HF.out]
            have e1 := eqs_true h1
            clear h1 hgt
            go_wp2
            go_ret
            exact ⟨by rw [HR.out]; first | rfl | simp, hbel⟩
          · have HF2 : Hid (fnd nsB (bl s) (14 - (i + 1)) (i + 1) = fnd nsB (bl s) 14 0) := by have h := fnd_miss (f := 14 - i) (by rw [hgt]; exact h1) (by omega) HF.out; rw [Nat.sub_sub] at h; exact h
            have e1 := eqs_false h1
            clear h1
            go_wp2
            go_roundw
            case rel => exact ⟨i + 1, by omega, by go_num, hrow, HF2, hbel⟩
            case measure => simp [intOf]; omega
        · obtain rfl : i = 14 := by omega
          have HNB : Hid (fnd nsB (bl s) 14 0 = none) := HF.out.symm.trans rfl
          rw [show ((14 : Nat) : Int) = 14 from rfl]
          obtain ⟨w2, rfl⟩ : ∃ w', w' = wr := ⟨_, rfl⟩
          clear HF hrow
          have hrow := strC w2
          replace hbel := bal hbel (.cells #[.string ⟨#[65, 68, 68, 82, 69, 83, 83]⟩, .string ⟨#[66, 65, 76, 65, 78, 67, 69]⟩, .string ⟨#[]⟩, .string ⟨#[67, 65, 76, 76, 69, 82]⟩, .string ⟨#[67, 65, 76, 76, 86, 65, 76, 85, 69]⟩, .string ⟨#[67, 65, 76, 76, 68, 65, 84, 65, 76, 79, 65, 68]⟩, .string ⟨#[67, 65, 76, 76, 68, 65, 84, 65, 83, 73, 90, 69]⟩, .string ⟨#[67, 65, 76, 76, 68, 65, 84, 65, 67, 79, 80, 89]⟩, .string ⟨#[67, 79, 68, 69, 83, 73, 90, 69]⟩, .string ⟨#[67, 79, 68, 69, 67, 79, 80, 89]⟩, .string ⟨#[]⟩, .string ⟨#[]⟩, .string ⟨#[]⟩, .string ⟨#[82, 69, 84, 85, 82, 78, 68, 65, 84, 65, 83, 73, 90, 69]⟩, .string ⟨#[82, 69, 84, 85, 82, 78, 68, 65, 84, 65, 67, 79, 80, 89]⟩] 9)
          go_wp2
          generalize w2.heap.size = b2 at *
          go_loopw [6] (fun tt wr => ∃ i : Nat, i ≤ 15 ∧ tt = .int .i64 i ∧ wr.rowIs (b2) 9 15 (fun i => .string (nsC.getD i ⟨#[]⟩)) ∧ Hid (fnd nsC (bl s) (15 - i) i = fnd nsC (bl s) 15 0) ∧ Below w.heap.size w wr) (fun tt _ => 15 - (intOf tt).toNat)
          case atStart => exact ⟨0, by omega, rfl, hrow, rfl, hbel⟩
          case round =>
            clear hrow hbel
            obtain ⟨i, hi, rfl, hrow, HF, hbel⟩ := hrel
            by_cases hlt : i < 15
            · as_aux_lemma =>
              have hdi : decide ((i : Int) < 15) = true := by simp; omega
              have hc := hrow.cell hlt
              generalize hgt : nsC.getD i ⟨#[]⟩ = t at *
              by_cases h1 : bl t = bl s
              · have HR : Hid (rnm s = (48 : Int) + (i : Int)) := by show _ = _; unfold rnm; rw [HNA.out]; dsimp only; rw [HNB.out]; dsimp only; rw [fnd_hit (f := 15 - i) (by rw [hgt]; exact h1) (by omega) HF.out]
                have e1 := eqs_true h1
                clear h1 hgt
                go_wp2
                go_ret
                exact ⟨by rw [HR.out]; first | rfl | simp, hbel⟩
              · have HF2 : Hid (fnd nsC (bl s) (15 - (i + 1)) (i + 1) = fnd nsC (bl s) 15 0) := by have h := fnd_miss (f := 15 - i) (by rw [hgt]; exact h1) (by omega) HF.out; rw [Nat.sub_sub] at h; exact h
                have e1 := eqs_false h1
                clear h1
                go_wp2
                go_roundw
                case rel => exact ⟨i + 1, by omega, by go_num, hrow, HF2, hbel⟩
                case measure => simp [intOf]; omega
            · obtain rfl : i = 15 := by omega
              have HNC : Hid (fnd nsC (bl s) 15 0 = none) := HF.out.symm.trans rfl
              rw [show ((15 : Nat) : Int) = 15 from rfl]
              obtain ⟨w3, rfl⟩ : ∃ w', w' = wr := ⟨_, rfl⟩
              clear HF hrow
              have hrow := strD w3
              replace hbel := bal hbel (.cells #[.string ⟨#[80, 79, 80]⟩, .string ⟨#[77, 76, 79, 65, 68]⟩, .string ⟨#[77, 83, 84, 79, 82, 69]⟩, .string ⟨#[77, 83, 84, 79, 82, 69, 56]⟩, .string ⟨#[83, 76, 79, 65, 68]⟩, .string ⟨#[83, 83, 84, 79, 82, 69]⟩, .string ⟨#[74, 85, 77, 80]⟩, .string ⟨#[74, 85, 77, 80, 73]⟩, .string ⟨#[80, 67]⟩, .string ⟨#[77, 83, 73, 90, 69]⟩, .string ⟨#[71, 65, 83]⟩, .string ⟨#[74, 85, 77, 80, 68, 69, 83, 84]⟩, .string ⟨#[84, 76, 79, 65, 68]⟩, .string ⟨#[84, 83, 84, 79, 82, 69]⟩, .string ⟨#[77, 67, 79, 80, 89]⟩] 9)
              go_wp2
              generalize w3.heap.size = b3 at *
              go_loopw [7] (fun tt wr => ∃ i : Nat, i ≤ 15 ∧ tt = .int .i64 i ∧ wr.rowIs (b3) 9 15 (fun i => .string (nsD.getD i ⟨#[]⟩)) ∧ Hid (fnd nsD (bl s) (15 - i) i = fnd nsD (bl s) 15 0) ∧ Below w.heap.size w wr) (fun tt _ => 15 - (intOf tt).toNat)
              case atStart => exact ⟨0, by omega, rfl, hrow, rfl, hbel⟩
              case round =>
                clear hrow hbel
                obtain ⟨i, hi, rfl, hrow, HF, hbel⟩ := hrel
                by_cases hlt : i < 15
                · as_aux_lemma =>
                  have hdi : decide ((i : Int) < 15) = true := by simp; omega
                  have hc := hrow.cell hlt
                  generalize hgt : nsD.getD i ⟨#[]⟩ = t at *
                  by_cases h1 : bl t = bl s
                  · have HR : Hid (rnm s = (80 : Int) + (i : Int)) := by show _ = _; unfold rnm; rw [HNA.out]; dsimp only; rw [HNB.out]; dsimp only; rw [HNC.out]; dsimp only; rw [fnd_hit (f := 15 - i) (by rw [hgt]; exact h1) (by omega) HF.out]
                    have e1 := eqs_true h1
                    clear h1 hgt
                    go_wp2
                    go_ret
                    exact ⟨by rw [HR.out]; first | rfl | simp, hbel⟩
                  · have HF2 : Hid (fnd nsD (bl s) (15 - (i + 1)) (i + 1) = fnd nsD (bl s) 15 0) := by have h := fnd_miss (f := 15 - i) (by rw [hgt]; exact h1) (by omega) HF.out; rw [Nat.sub_sub] at h; exact h
                    have e1 := eqs_false h1
                    clear h1
                    go_wp2
                    go_roundw
                    case rel => exact ⟨i + 1, by omega, by go_num, hrow, HF2, hbel⟩
                    case measure => simp [intOf]; omega
                · obtain rfl : i = 15 := by omega
                  have HND : Hid (fnd nsD (bl s) 15 0 = none) := HF.out.symm.trans rfl
                  rw [show ((15 : Nat) : Int) = 15 from rfl]
                  obtain ⟨w4, rfl⟩ : ∃ w', w' = wr := ⟨_, rfl⟩
                  clear HF hrow
                  go_wp2
                  go_loopw [8] (fun tt wr => ∃ i : Nat, 1 ≤ i ∧ i ≤ 17 ∧ tt = .int .i64 i ∧ Hid (rowR (bl s) (17 - i) i = rowR (bl s) 16 1) ∧ Below w.heap.size w wr) (fun tt _ => 17 - (intOf tt).toNat)
                  case atStart => exact ⟨1, by omega, by omega, rfl, rfl, hbel⟩
                  case round =>
                    clear hbel
                    obtain ⟨i, hi0, hi, rfl, HF, hbel⟩ := hrel
                    by_cases hlt : i < 17
                    · as_aux_lemma =>
                      have hdi : decide ((i : Int) ≤ 16) = true := by simp; omega
                      have HDC : Hid (∀ w, Calls Tryd.prog 36 #[.int .i64 (i : Int)] w fun e w' => e = .returned (.string (dcs i)) ∧ Below w.heap.size w w') := fun w => dec_any i (by omega) w
                      have hsz := dcs_size i
                      obtain ⟨f, hf⟩ : ∃ f, 17 - i = f + 1 := ⟨16 - i, by omega⟩
                      have HFF : Hid (f = 17 - (i + 1)) := by show _ = _; omega
                      have hF := HF.out
                      rw [hf] at hF
                      clear hf HF
                      go_wp2_with fail
                      refine (HDC.out _).mono ?_
                      rintro e w5 ⟨rfl, hb⟩
                      replace hbel := bcall hbel hb
                      clear hb HDC
                      by_cases h1 : bl s = bl ((⟨#[68, 85, 80]⟩ : ByteArray) ++ dcs i)
                      · have HR : Hid (rnm s = (127 : Int) + (i : Int)) := by show _ = _; unfold rnm; rw [HNA.out]; dsimp only; rw [HNB.out]; dsimp only; rw [HNC.out]; dsimp only; rw [HND.out]; dsimp only; rw [← hF, rowR, if_pos h1]; simp
                        have e1 := eqs_true h1
                        clear h1 hF
                        generalize dcs i = dc at *
                        go_wp2
                        go_ret
                        exact ⟨by rw [HR.out]; rfl, hbel⟩
                      · have e1 := eqs_false h1
                        by_cases h2 : bl s = bl ((⟨#[83, 87, 65, 80]⟩ : ByteArray) ++ dcs i)
                        · have HR : Hid (rnm s = (143 : Int) + (i : Int)) := by show _ = _; unfold rnm; rw [HNA.out]; dsimp only; rw [HNB.out]; dsimp only; rw [HNC.out]; dsimp only; rw [HND.out]; dsimp only; rw [← hF, rowR, if_neg h1, if_pos h2]; simp
                          have e2 := eqs_true h2
                          clear h1 h2 hF
                          generalize dcs i = dc at *
                          go_wp2
                          go_ret
                          exact ⟨by rw [HR.out]; rfl, hbel⟩
                        · have e2 := eqs_false h2
                          by_cases h5 : i ≤ 5
                          · have hd5 : decide ((i : Int) ≤ 5) = true := by simp; omega
                            have HDC : Hid (∀ w, Calls Tryd.prog 36 #[.int .i64 ((i : Int) - 1)] w fun e w' => e = .returned (.string (dcs (i - 1))) ∧ Below w.heap.size w w') := fun w => by have h := dec_any (i - 1) (by omega) w; rw [show ((i - 1 : Nat) : Int) = (i : Int) - 1 by omega] at h; exact h
                            have hsz2 := dcs_size (i - 1)
                            obtain ⟨d2, hd2⟩ : ∃ d, d = dcs (i - 1) := ⟨_, rfl⟩
                            obtain ⟨d1, hd1⟩ : ∃ d, d = dcs i := ⟨_, rfl⟩
                            rw [← hd2] at HDC hsz2
                            rw [← hd1] at h1 h2 e1 e2 hsz ⊢
                            have HD1 : Hid (d1 = dcs i) := hd1
                            have HD2 : Hid (d2 = dcs (i - 1)) := hd2
                            clear hd1 hd2
                            go_wp2_with fail
                            refine (HDC.out _).mono ?_
                            rintro e w6 ⟨rfl, hb⟩
                            replace hbel := bcall hbel hb
                            clear hb HDC
                            by_cases h3 : bl s = bl ((⟨#[76, 79, 71]⟩ : ByteArray) ++ d2)
                            · have HR : Hid (rnm s = (159 : Int) + (i : Int)) := by show _ = _; unfold rnm; rw [HNA.out]; dsimp only; rw [HNB.out]; dsimp only; rw [HNC.out]; dsimp only; rw [HND.out]; dsimp only; rw [← hF, rowR, ← HD1.out, ← HD2.out, if_neg h1, if_neg h2, if_pos ⟨h5, h3⟩]; simp
                              have e3 := eqs_true h3
                              clear h1 h2 h3 hF
                              go_wp2
                              go_ret
                              exact ⟨by rw [HR.out]; rfl, hbel⟩
                            · have e3 := eqs_false h3
                              have HF2 : Hid (rowR (bl s) (17 - (i + 1)) (i + 1) = rowR (bl s) 16 1) := by
                                show _ = _
                                rw [← hF, ← HFF.out, rowR, ← HD1.out, ← HD2.out, if_neg h1, if_neg h2, if_neg (fun h => h3 h.2)]
                              clear h1 h2 h3 hF
                              go_wp2
                              go_roundw
                              case rel => exact ⟨i + 1, by omega, by omega, by go_num, HF2, hbel⟩
                              case measure => simp [intOf]; omega
                          · have hd5 : decide ((i : Int) ≤ 5) = false := by simp; omega
                            have HF2 : Hid (rowR (bl s) (17 - (i + 1)) (i + 1) = rowR (bl s) 16 1) := by
                              show _ = _
                              rw [← hF, ← HFF.out, rowR, if_neg h1, if_neg h2, if_neg (fun h => h5 h.1)]
                            clear h1 h2 hF
                            generalize dcs i = dc at *
                            go_wp2
                            go_roundw
                            case rel => exact ⟨i + 1, by omega, by omega, by go_num, HF2, hbel⟩
                            case measure => simp [intOf]; omega
                    · as_aux_lemma =>
                      obtain rfl : i = 17 := by omega
                      have HNR : Hid (rowR (bl s) 16 1 = none) := HF.out.symm.trans rfl
                      rw [show ((17 : Nat) : Int) = 17 from rfl]
                      clear HF
                      by_cases h0 : bl s = [67, 65, 76, 76]
                      · have HR : Hid (rnm s = 241) := by show _ = _; unfold rnm; rw [HNA.out]; dsimp only; rw [HNB.out]; dsimp only; rw [HNC.out]; dsimp only; rw [HND.out]; dsimp only; rw [HNR.out]; dsimp only; unfold tabZ; rw [lk_hit h0]; rfl
                        have e0 := eqb_true h0
                        clear h0
                        go_wp2
                        go_ret
                        exact ⟨by rw [HR.out]; rfl, hbel⟩
                      · skip
                        by_cases h1 : bl s = [82, 69, 84, 85, 82, 78]
                        · have HR : Hid (rnm s = 243) := by show _ = _; unfold rnm; rw [HNA.out]; dsimp only; rw [HNB.out]; dsimp only; rw [HNC.out]; dsimp only; rw [HND.out]; dsimp only; rw [HNR.out]; dsimp only; unfold tabZ; rw [lk_miss h0, lk_hit h1]; rfl
                          have e0 := eqb_false h0
                          have e1 := eqb_true h1
                          clear h0 h1
                          go_wp2
                          go_ret
                          exact ⟨by rw [HR.out]; rfl, hbel⟩
                        · skip
                          by_cases h2 : bl s = [68, 69, 76, 69, 71, 65, 84, 69, 67, 65, 76, 76]
                          · have HR : Hid (rnm s = 244) := by show _ = _; unfold rnm; rw [HNA.out]; dsimp only; rw [HNB.out]; dsimp only; rw [HNC.out]; dsimp only; rw [HND.out]; dsimp only; rw [HNR.out]; dsimp only; unfold tabZ; rw [lk_miss h0, lk_miss h1, lk_hit h2]; rfl
                            have e0 := eqb_false h0
                            have e1 := eqb_false h1
                            have e2 := eqb_true h2
                            clear h0 h1 h2
                            go_wp2
                            go_ret
                            exact ⟨by rw [HR.out]; rfl, hbel⟩
                          · skip
                            by_cases h3 : bl s = [83, 84, 65, 84, 73, 67, 67, 65, 76, 76]
                            · have HR : Hid (rnm s = 250) := by show _ = _; unfold rnm; rw [HNA.out]; dsimp only; rw [HNB.out]; dsimp only; rw [HNC.out]; dsimp only; rw [HND.out]; dsimp only; rw [HNR.out]; dsimp only; unfold tabZ; rw [lk_miss h0, lk_miss h1, lk_miss h2, lk_hit h3]; rfl
                              have e0 := eqb_false h0
                              have e1 := eqb_false h1
                              have e2 := eqb_false h2
                              have e3 := eqb_true h3
                              clear h0 h1 h2 h3
                              go_wp2
                              go_ret
                              exact ⟨by rw [HR.out]; rfl, hbel⟩
                            · skip
                              by_cases h4 : bl s = [82, 69, 86, 69, 82, 84]
                              · have HR : Hid (rnm s = 253) := by show _ = _; unfold rnm; rw [HNA.out]; dsimp only; rw [HNB.out]; dsimp only; rw [HNC.out]; dsimp only; rw [HND.out]; dsimp only; rw [HNR.out]; dsimp only; unfold tabZ; rw [lk_miss h0, lk_miss h1, lk_miss h2, lk_miss h3, lk_hit h4]; rfl
                                have e0 := eqb_false h0
                                have e1 := eqb_false h1
                                have e2 := eqb_false h2
                                have e3 := eqb_false h3
                                have e4 := eqb_true h4
                                clear h0 h1 h2 h3 h4
                                go_wp2
                                go_ret
                                exact ⟨by rw [HR.out]; rfl, hbel⟩
                              · skip
                                have HR : Hid (rnm s = -1) := by show _ = _; unfold rnm; rw [HNA.out]; dsimp only; rw [HNB.out]; dsimp only; rw [HNC.out]; dsimp only; rw [HND.out]; dsimp only; rw [HNR.out]; dsimp only; unfold tabZ; rw [lk_miss h0, lk_miss h1, lk_miss h2, lk_miss h3, lk_miss h4]; rfl
                                have e0 := eqb_false h0
                                have e1 := eqb_false h1
                                have e2 := eqb_false h2
                                have e3 := eqb_false h3
                                have e4 := eqb_false h4
                                clear h0 h1 h2 h3 h4
                                go_wp2
                                go_ret
                                exact ⟨by rw [HR.out]; rfl, hbel⟩
end cin
end Go.Proofs.YtohoajjdoihekaaDoor
