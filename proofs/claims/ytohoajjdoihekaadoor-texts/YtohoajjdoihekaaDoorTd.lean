/-
  Names: the program's way and the document's.
-/
import Derived.Test.YtohoajjdoihekaaDoorTc
set_option linter.unusedVariables false
set_option linter.unusedSimpArgs false
namespace Go.Proofs.YtohoajjdoihekaaDoor
open Go.RowKit
namespace cin
/-- is the rune at a place none that a name may have? -/
def unfit (s : ByteArray) (p : Nat) : Bool := decide (nx s p = 0 ∨ (nx s p = 1 ∧ (byt s p < 97 ∨ 122 < byt s p)))
def nmF (s : ByteArray) : Nat → Nat → Nat → Bool
  | 0, _, k => decide (0 < k ∧ k < 11)
  | f + 1, p, k => if p < s.size then (if unfit s p then false else nmF s f (p + nx s p) (k + 1)) else decide (0 < k ∧ k < 11)
def nm (s : ByteArray) : Bool := nmF s s.size 0 0
theorem nmF_end (s : ByteArray) (f p k : Nat) (h : ¬ p < s.size) : nmF s f p k = decide (0 < k ∧ k < 11) := by
  cases f with
  | zero => rfl
  | succ f => simp [nmF, h]
theorem nm_step {s : ByteArray} {f p k : Nat} {c : Bool} (hp : p < s.size) (h0 : unfit s p = false) (hf : 0 < f) (h : nmF s f p k = c) : nmF s (f - 1) (p + nx s p) (k + 1) = c := by
  obtain ⟨g, rfl⟩ : ∃ g, f = g + 1 := ⟨f - 1, by omega⟩
  rw [← h]
  simp [nmF, hp, h0]
theorem nm_no {s : ByteArray} {f p k : Nat} {c : Bool} (hp : p < s.size) (h0 : unfit s p = true) (hf : 0 < f) (h : nmF s f p k = c) : c = false := by
  obtain ⟨g, rfl⟩ : ∃ g, f = g + 1 := ⟨f - 1, by omega⟩
  rw [← h]
  simp [nmF, hp, h0]
theorem unfit_nx {s : ByteArray} {p : Nat} (h : unfit s p = false) : nx s p ≠ 0 := by
  unfold unfit at h
  intro e
  have := of_decide_eq_false h
  exact this (Or.inl e)
set_option maxRecDepth 100000 in
set_option maxHeartbeats 2000000 in
theorem risName_any (s : ByteArray) (hs : s.size ≤ 2000) (w : World) : Calls Tryd.prog 18 #[.string s] w fun e w' => e = .returned (.bool (nm s)) ∧ w' = w := by
  go_enter Tryd.func18, Tryd.ntmps18
  go_wp2
  go_loopw [3, 4] (fun t3 t4 wr => ∃ p f k : Nat, t4 = .int .i64 p ∧ t3 = .int .i64 k ∧ k ≤ p ∧ p ≤ s.size ∧ s.size ≤ p + f ∧ Hid (nmF s f p k = nm s) ∧ Hid (wr = w)) (fun _ t4 _ => s.size - (intOf t4).toNat)
  case atStart => exact ⟨0, s.size, 0, rfl, rfl, by omega, by omega, by omega, rfl, rfl⟩
  case round =>
    obtain ⟨p, f, k, rfl, rfl, hk, hps, hf, HC, HW⟩ := hrel
    by_cases hp : p < s.size
    · have hu : unfit s p = decide (nx s p = 0 ∨ (nx s p = 1 ∧ (byt s p < 97 ∨ 122 < byt s p))) := rfl
      have hx := byt_at s p hp
      have hl := byt_lt s p
      cases hc : unfit s p
      · have h0 := unfit_nx hc
        have hle := nx_le s p hp h0
        have HS : Hid (nmF s (f - 1) (p + nx s p) (k + 1) = nm s) := nm_step hp hc (by omega) HC.out
        have hno : ¬ (nx s p = 1 ∧ (byt s p < 97 ∨ 122 < byt s p)) := fun h => by rw [hc] at hu; exact (of_decide_eq_false hu.symm) (Or.inr h)
        clear hu hc
        go_wp2_with fail
        refine (next_any s p hp hs _).mono ?_
        rintro e w' ⟨rfl, rfl⟩
        generalize nx s p = n at *
        generalize byt s p = b at *
        have hd0 : ((n : Int) == 0) = false := by simp; omega
        by_cases h1 : n = 1
        · subst h1
          have hb1 : ¬ b < 97 := fun h => hno ⟨rfl, Or.inl h⟩
          have hb2 : ¬ 122 < b := fun h => hno ⟨rfl, Or.inr h⟩
          clear hno
          go_wp2
          go_roundw
          case rel => exact ⟨p + 1, f - 1, k + 1, by go_num, by go_num, by omega, hle, by omega, HS, HW⟩
          case measure => simp [intOf]; omega
        · have hd1 : ((n : Int) == 1) = false := by simp; omega
          clear hno
          go_wp2
          go_roundw
          case rel => exact ⟨p + n, f - 1, k + 1, by go_num, by go_num, by omega, hle, by omega, HS, HW⟩
          case measure => simp [intOf]; omega
      · have HR : Hid (nm s = false) := nm_no hp hc (by omega) HC.out
        have hyes : nx s p = 0 ∨ (nx s p = 1 ∧ (byt s p < 97 ∨ 122 < byt s p)) := by rw [hc] at hu; exact of_decide_eq_true hu.symm
        clear hu hc
        go_wp2_with fail
        refine (next_any s p hp hs _).mono ?_
        rintro e w' ⟨rfl, rfl⟩
        generalize nx s p = n at *
        generalize byt s p = b at *
        rcases hyes with h | ⟨h, h2 | h2⟩
        · subst h
          go_wp2
          go_ret
          exact ⟨by rw [HR.out]; rfl, HW.out⟩
        · subst h
          go_wp2
          go_ret
          exact ⟨by rw [HR.out]; rfl, HW.out⟩
        · subst h
          have h3 : ¬ b < 97 := by omega
          go_wp2
          go_ret
          exact ⟨by rw [HR.out]; rfl, HW.out⟩
    · have HR : Hid (nm s = decide (0 < k ∧ k < 11)) := by show _ = _; rw [← HC.out, nmF_end s f p k hp]
      by_cases h1 : 0 < k
      · by_cases h2 : k < 11
        · have HR2 : Hid (nm s = true) := HR.out.trans (decide_eq_true ⟨h1, h2⟩)
          have hd1 : decide ((k : Int) < 11) = true := by simp; omega
          have hd2 : decide ((k : Int) ≤ 10) = true := by simp; omega
          go_wp2
          go_ret
          exact ⟨by rw [HR2.out]; rfl, HW.out⟩
        · have HR2 : Hid (nm s = false) := HR.out.trans (decide_eq_false (fun h => h2 h.2))
          have hd1 : decide ((k : Int) < 11) = false := by simp; omega
          have hd2 : decide ((k : Int) ≤ 10) = false := by simp; omega
          go_wp2
          go_ret
          exact ⟨by rw [HR2.out]; rfl, HW.out⟩
      · have HR2 : Hid (nm s = false) := HR.out.trans (decide_eq_false (fun h => h1 h.1))
        go_wp2
        go_ret
        exact ⟨by rw [HR2.out]; rfl, HW.out⟩
/-- in a text whose bytes all belong to runes each rune's reader gives one -/
theorem cntF_ok {s : ByteArray} {f p k : Nat} (hp : p < s.size) (hf : 0 < f) (h : (cntF s f p k).2 = true) : nx s p ≠ 0 ∧ (cntF s (f - 1) (p + nx s p) (k + 1)).2 = true := by
  obtain ⟨g, rfl⟩ : ∃ g, f = g + 1 := ⟨f - 1, by omega⟩
  by_cases h0 : nx s p = 0
  · simp [cntF, hp, h0] at h
  · refine ⟨h0, ?_⟩
    simp only [cntF, if_pos hp, if_neg h0] at h
    exact h
theorem dec_small (z i b0 b1 b2 b3 : Nat) : (dec z i b0 b1 b2 b3).1 ≤ 127 ↔ b0 < 128 := by
  unfold dec
  repeat' split
  all_goals dsimp only
  all_goals omega
theorem dec_one (z i b0 b1 b2 b3 : Nat) (h : b0 < 128) : dec z i b0 b1 b2 b3 = (b0, 1) := by unfold dec; rw [if_pos h]
theorem rune_small (s : ByteArray) (p : Nat) (h0 : nx s p ≠ 0) : ((Utf8.decode s p).1 ≤ 127 ↔ nx s p = 1) ∧ (nx s p = 1 → (Utf8.decode s p).1 = byt s p) := by
  have hd := dec_small s.size p (byt s p) (byt s (p + 1)) (byt s (p + 2)) (byt s (p + 3))
  rw [← decode_dec] at hd
  have hone : byt s p < 128 → Utf8.decode s p = (byt s p, 1) := fun h => by rw [decode_dec, dec_one _ _ _ _ _ _ h]
  have hw := nx_wid s p
  have hbig : ¬ byt s p < 128 → nx s p ≠ 1 := fun h e => by
    rw [hw] at e
    unfold wid dec at e
    rw [if_neg h] at e
    revert e
    repeat' split
    all_goals first | (simp; done) | (exfalso; rename_i h9; exact h9 rfl)
  constructor
  · rw [hd]
    constructor
    · intro h
      rw [← nx_width s p h0, hone h]
    · intro e
      by_cases h : byt s p < 128
      · exact h
      · exact absurd e (hbig h)
  · intro e
    by_cases h : byt s p < 128
    · rw [hone h]
    · exact absurd e (hbig h)
set_option maxRecDepth 100000 in
set_option maxHeartbeats 2000000 in
theorem pisName_any (s : ByteArray) (hs : s.size ≤ 2000) (hv : Hid ((cnt s).2 = true)) (w : World) : Calls Tryd.prog 26 #[.string s] w fun e w' => e = .returned (.bool (nm s)) ∧ Below w.heap.size w w' := by
  go_enter Tryd.func26, Tryd.ntmps26
  go_wp2
  go_loopw [3] (fun t3 wr => ∃ p f k : Nat, wr = w.iter s p ∧ t3 = .int .i64 k ∧ k ≤ p ∧ p ≤ s.size ∧ s.size ≤ p + f ∧ Hid (nmF s f p k = nm s) ∧ Hid ((cntF s f p k).2 = true)) (fun _ wr => s.size - wr.iterPos w.heap.size)
  case atStart => exact ⟨0, s.size, 0, rfl, rfl, by omega, by omega, by omega, rfl, hv⟩
  case round =>
    obtain ⟨p, f, k, rfl, rfl, hk, hps, hf, HC, HV⟩ := hrel
    by_cases hp : p < s.size
    · have hnx : ∀ ty, (Instr.next (.pointer (some ⟨w.heap.size, 0, none⟩)) true ty).run Tryd.prog (w.iter s p) = _ := fun ty => run_next_any w s p ty hp
      obtain ⟨h0, hv2⟩ := cntF_ok hp (by omega) HV.out
      obtain ⟨hr1, hr2⟩ := rune_small s p h0
      have hle := nx_le s p hp h0
      have hpos : 0 < nx s p := Nat.pos_of_ne_zero h0
      rw [nx_width s p h0] at hnx
      have HV2 : Hid ((cntF s (f - 1) (p + nx s p) (k + 1)).2 = true) := hv2
      have hu : unfit s p = decide (nx s p = 0 ∨ (nx s p = 1 ∧ (byt s p < 97 ∨ 122 < byt s p))) := rfl
      cases hc : unfit s p
      · have HS : Hid (nmF s (f - 1) (p + nx s p) (k + 1) = nm s) := nm_step hp hc (by omega) HC.out
        have hno : ¬ (nx s p = 1 ∧ (byt s p < 97 ∨ 122 < byt s p)) := fun h => by rw [hc] at hu; exact (of_decide_eq_false hu.symm) (Or.inr h)
        have hcase : ((Utf8.decode s p).1 ≤ 127 ∧ ¬ (Utf8.decode s p).1 < 97 ∧ ¬ 122 < (Utf8.decode s p).1) ∨ ¬ (Utf8.decode s p).1 ≤ 127 := by
          by_cases h : (Utf8.decode s p).1 ≤ 127
          · have h1 := hr1.1 h
            have h2 := hr2 h1
            refine Or.inl ⟨h, ?_, ?_⟩
            · rw [h2]; exact fun h => hno ⟨h1, Or.inl h⟩
            · rw [h2]; exact fun h => hno ⟨h1, Or.inr h⟩
          · exact Or.inr h
        clear hu hc hr1 hr2 hno h0 hv2
        generalize nx s p = n at *
        generalize (Utf8.decode s p).1 = r at *
        rcases hcase with ⟨h1, h2, h3⟩ | h1
        · go_wp2
          go_roundw
          case rel => exact ⟨p + n, f - 1, k + 1, rfl, by go_num, by omega, hle, by omega, HS, HV2⟩
          case measure => simp; omega
        · go_wp2
          go_roundw
          case rel => exact ⟨p + n, f - 1, k + 1, rfl, by go_num, by omega, hle, by omega, HS, HV2⟩
          case measure => simp; omega
      · have HR : Hid (nm s = false) := nm_no hp hc (by omega) HC.out
        have hyes : nx s p = 0 ∨ (nx s p = 1 ∧ (byt s p < 97 ∨ 122 < byt s p)) := by rw [hc] at hu; exact of_decide_eq_true hu.symm
        have hcase : (Utf8.decode s p).1 ≤ 127 ∧ ((Utf8.decode s p).1 < 97 ∨ (¬ (Utf8.decode s p).1 < 97 ∧ 122 < (Utf8.decode s p).1)) := by
          rcases hyes with h | ⟨h1, h2⟩
          · exact absurd h h0
          · rw [hr2 h1]
            have h3 := hr1.2 h1
            rw [hr2 h1] at h3
            exact ⟨h3, by omega⟩
        clear hu hc hr1 hr2 hyes h0 hv2
        generalize nx s p = n at *
        generalize (Utf8.decode s p).1 = r at *
        obtain ⟨h1, h2 | ⟨h2, h3⟩⟩ := hcase
        · go_wp2
          go_ret
          exact ⟨by rw [HR.out]; rfl, bal (Below.refl _ _) _⟩
        · go_wp2
          go_ret
          exact ⟨by rw [HR.out]; rfl, bal (Below.refl _ _) _⟩
    · have HR : Hid (nm s = decide (0 < k ∧ k < 11)) := by show _ = _; rw [← HC.out, nmF_end s f p k hp]
      have hnx : ∀ ty, (Instr.next (.pointer (some ⟨w.heap.size, 0, none⟩)) true ty).run Tryd.prog (w.iter s p) = _ := fun ty => run_next_end w s p ty hp
      by_cases h1 : 0 < k
      · by_cases h2 : k < 11
        · have HR2 : Hid (nm s = true) := HR.out.trans (decide_eq_true ⟨h1, h2⟩)
          have hd1 : decide ((k : Int) < 11) = true := by simp; omega
          have hd2 : decide ((k : Int) ≤ 10) = true := by simp; omega
          go_wp2
          go_ret
          exact ⟨by rw [HR2.out]; rfl, bal (Below.refl _ _) _⟩
        · have HR2 : Hid (nm s = false) := HR.out.trans (decide_eq_false (fun h => h2 h.2))
          have hd1 : decide ((k : Int) < 11) = false := by simp; omega
          have hd2 : decide ((k : Int) ≤ 10) = false := by simp; omega
          go_wp2
          go_ret
          exact ⟨by rw [HR2.out]; rfl, bal (Below.refl _ _) _⟩
      · have HR2 : Hid (nm s = false) := HR.out.trans (decide_eq_false (fun h => h1 h.1))
        go_wp2
        go_ret
        exact ⟨by rw [HR2.out]; rfl, bal (Below.refl _ _) _⟩
end cin
end Go.Proofs.YtohoajjdoihekaaDoor
