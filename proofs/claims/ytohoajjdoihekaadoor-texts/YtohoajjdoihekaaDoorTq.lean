/-
  Numbers in texts: both ways read one number. No call is walked here.
-/
import Derived.Test.YtohoajjdoihekaaDoorTi
set_option linter.unusedVariables false
set_option linter.unusedSimpArgs false
namespace Go.Proofs.YtohoajjdoihekaaDoor
open Go.RowKit
namespace cin
/-- the number in digits, and whether it is too great; none: there is none -/
def nres (t : ByteArray) (b : Nat) : Option (Nat × Bool) := match num t b with
  | none => none
  | some (n, g) => if t.size = 0 then none else some (n, g)
theorem bl_inj {s t : ByteArray} (h : bl s = bl t) : s = t := by
  obtain ⟨⟨a⟩⟩ := s
  obtain ⟨⟨b⟩⟩ := t
  have e : a = b := h
  rw [e]
theorem x0_size : x0.size = 2 := rfl
theorem nums_agree (s : ByteArray) : nres (nt s) (nb s) = nres (cutP s x0) (rbase s) := by
  by_cases h2 : 2 < s.size
  · have hp : pf s x0 = (decide (2 < s.size) && ((s.extract 0 2).toList == x0.toList)) := by
      unfold pf
      rw [x0_size, decide_eq_true (show 2 ≤ s.size by omega), decide_eq_true h2]
    have h1 : cutP s x0 = nt s := by unfold cutP nt; rw [hp]; rfl
    have h3 : rbase s = nb s := by unfold rbase nb; rw [hp]
    rw [h1, h3]
  · have hn : nt s = s := by unfold nt; rw [decide_eq_false h2, Bool.false_and]; rfl
    have hb : nb s = 10 := by unfold nb; rw [decide_eq_false h2, Bool.false_and]; rfl
    cases hp : pf s x0
    · have h1 : cutP s x0 = s := by unfold cutP; rw [hp]; rfl
      have h3 : rbase s = 10 := by unfold rbase; rw [hp]; rfl
      rw [h1, h3, hn, hb]
    · have hpl := hp
      rw [pf_list, List.isPrefixOf_iff_prefix] at hpl
      have hle := hpl.length_le
      have hsz : (bl s).length = s.size := rfl
      have hx : (bl x0).length = 2 := rfl
      have he : bl x0 = bl s := hpl.eq_of_length (by omega)
      have hs : s = x0 := (bl_inj he).symm
      subst hs
      have a1 : nres (nt x0) (nb x0) = none := by
        rw [hn, hb]
        unfold nres
        have : num x0 10 = none := by unfold num; simp only [x0_size, numF]; decide
        rw [this]
      have a2 : nres (cutP x0 x0) (rbase x0) = none := by
        have hc : (cutP x0 x0).size = 0 := by unfold cutP; rw [hp, if_pos rfl, ByteArray.size_extract]; rfl
        unfold nres
        split
        · rfl
        · rw [if_pos hc]
      rw [a1, a2]
theorem rnum_nres (t : ByteArray) (b : Nat) : rnum t b = match nres t b with
  | none => (0, 2)
  | some (n, g) => if g then (0, 4) else (n, 0) := by
  unfold rnum nres
  cases num t b with
  | none => rfl
  | some p =>
    obtain ⟨n, g⟩ := p
    dsimp only
    by_cases h : t.size = 0
    · rw [if_pos h, if_pos h]
    · rw [if_neg h, if_neg h]
end cin
end Go.Proofs.YtohoajjdoihekaaDoor
