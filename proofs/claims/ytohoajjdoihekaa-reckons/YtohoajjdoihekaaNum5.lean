/-
  Numbers: what each operation on words gives. No program is named here.
-/
import Derived.Test.YtohoajjdoihekaaNum4
set_option linter.unusedVariables false
set_option linter.unusedSimpArgs false
namespace Go.Proofs.Ytohoajjdoihekaa
namespace cin
theorem limb_mod (n i : Nat) (hi : i < 4) : limb (n % M) i = limb n i := by
  unfold limb M
  rcases k4 hi with rfl | rfl | rfl | rfl <;> simp only [pw0, pw1, pw2, pw3] <;> omega
theorem wv_mod (n : Nat) : wv (n % M) = wv n := by
  unfold wv
  rw [limb_mod n 0 (by omega), limb_mod n 1 (by omega), limb_mod n 2 (by omega), limb_mod n 3 (by omega)]
theorem wv_congr {m n : Nat} (h : m % M = n % M) : wv m = wv n := by rw [← wv_mod m, ← wv_mod n, h]
def fadd (a b : Nat) : Nat := (a + b) % M
def fsub (a b : Nat) : Nat := (a + (M - b)) % M
def fmul (a b : Nat) : Nat := a * b % M
def fdiv (a b : Nat) : Nat := a / b
def fmod (a b : Nat) : Nat := if b = 0 then 0 else a % b
def fneg (a : Nat) : Nat := (M - a) % M
def fmag (a : Nat) : Nat := if neg a then fneg a else a
def fsdiv (a b : Nat) : Nat := if neg a != neg b then fneg (fdiv (fmag a) (fmag b)) else fdiv (fmag a) (fmag b)
def fsmod (a b : Nat) : Nat := if neg a then fneg (fmod (fmag a) (fmag b)) else fmod (fmag a) (fmag b)
def faddmod (a b c : Nat) : Nat := fmod (a + b) c
def fmulmod (a b c : Nat) : Nat := fmod (a * b) c
def fexp (a b : Nat) : Nat := a ^ b % M
def fnot (a : Nat) : Nat := M - 1 - a
def fshl (a b : Nat) : Nat := if a < 256 then b * 2 ^ a % M else 0
def fshr (a b : Nat) : Nat := if a < 256 then b / 2 ^ a else 0
def fsar (a b : Nat) : Nat := if neg b then fnot (fshr a (fnot b)) else fshr a b
def fsext (a b : Nat) : Nat := if a < 31 then fsar (248 - 8 * a) (fshl (248 - 8 * a) b) else b
def fbyte (a b : Nat) : Nat := if a < 32 then fshr (8 * (31 - a)) b % 256 else 0
def fslt (a b : Nat) : Bool := if neg a != neg b then neg a else decide (a < b)
def ftruth (h : Bool) : Nat := if h then 1 else 0
theorem Mpos : 0 < M := by unfold M; omega
theorem fadd_lt (a b : Nat) : fadd a b < M := Nat.mod_lt _ Mpos
theorem fsub_lt (a b : Nat) : fsub a b < M := Nat.mod_lt _ Mpos
theorem fmul_lt (a b : Nat) : fmul a b < M := Nat.mod_lt _ Mpos
theorem fneg_lt (a : Nat) : fneg a < M := Nat.mod_lt _ Mpos
theorem fdiv_lt (a b : Nat) (ha : a < M) : fdiv a b < M := Nat.lt_of_le_of_lt (Nat.div_le_self _ _) ha
theorem fmod_lt (a b : Nat) (hb : b < M) : fmod a b < M := by
  unfold fmod; split
  · exact Mpos
  · exact Nat.lt_trans (Nat.mod_lt _ (by omega)) hb
theorem fmag_lt (a : Nat) (ha : a < M) : fmag a < M := by unfold fmag; split; exact fneg_lt a; exact ha
theorem fexp_lt (a b : Nat) : fexp a b < M := Nat.mod_lt _ Mpos
theorem fnot_lt (a : Nat) : fnot a < M := by unfold fnot M; omega
theorem fshl_lt (a b : Nat) : fshl a b < M := by unfold fshl; split; exact Nat.mod_lt _ Mpos; exact Mpos
theorem fshr_lt (a b : Nat) (hb : b < M) : fshr a b < M := by
  unfold fshr; split
  · exact Nat.lt_of_le_of_lt (Nat.div_le_self _ _) hb
  · exact Mpos
theorem fsdiv_lt (a b : Nat) (ha : a < M) : fsdiv a b < M := by
  unfold fsdiv; split
  · exact fneg_lt _
  · exact fdiv_lt _ _ (fmag_lt a ha)
theorem fsmod_lt (a b : Nat) (hb : b < M) : fsmod a b < M := by
  unfold fsmod; split
  · exact fneg_lt _
  · exact fmod_lt _ _ (fmag_lt b hb)
theorem fsar_lt (a b : Nat) (hb : b < M) : fsar a b < M := by unfold fsar; split; exact fnot_lt _; exact fshr_lt a b hb
theorem fsext_lt (a b : Nat) (hb : b < M) : fsext a b < M := by unfold fsext; split; exact fsar_lt _ _ (fshl_lt _ _); exact hb
theorem fbyte_lt (a b : Nat) : fbyte a b < M := by unfold fbyte M; split <;> omega
theorem ftruth_lt (h : Bool) : ftruth h < M := by unfold ftruth M; split <;> omega
theorem subw_eq (a b : Nat) (hb : b < M) : subw a b % M = fsub a b := by
  unfold subw fsub
  rw [Nat.mod_eq_of_lt hb, Nat.add_sub_assoc (Nat.le_of_lt hb)]
theorem ltw_eq (a b : Nat) (ha : a < M) (hb : b < M) : ltw a b = decide (a < b) := by
  unfold ltw; rw [Nat.mod_eq_of_lt ha, Nat.mod_eq_of_lt hb]
theorem prodw_eq (a b : Nat) (ha : a < M) (hb : b < M) : prodw a b = a * b := by
  unfold prodw; rw [Nat.mod_eq_of_lt ha, Nat.mod_eq_of_lt hb]
theorem notw_eq (a : Nat) (ha : a < M) : notw a = fnot a := by
  unfold notw fnot; rw [Nat.mod_eq_of_lt ha]
theorem shlw_eq (a b : Nat) (ha : a < M) : shlw a b % M = fshl a b := by
  unfold shlw fshl; rw [Nat.mod_eq_of_lt ha]; split; rfl; rfl
theorem shrw_eq (a b : Nat) (ha : a < M) : shrw a b = fshr a b := by
  unfold shrw fshr; rw [Nat.mod_eq_of_lt ha]
theorem and_lt (a b : Nat) (ha : a < M) : a &&& b < M := Nat.lt_of_le_of_lt Nat.and_le_left ha
theorem M_pow : M = 2 ^ 256 := rfl
theorem or_lt (a b : Nat) (ha : a < M) (hb : b < M) : a ||| b < M := by rw [M_pow] at *; exact Nat.or_lt_two_pow ha hb
theorem xor_lt (a b : Nat) (ha : a < M) (hb : b < M) : a ^^^ b < M := by rw [M_pow] at *; exact Nat.xor_lt_two_pow ha hb
end cin
end Go.Proofs.Ytohoajjdoihekaa
