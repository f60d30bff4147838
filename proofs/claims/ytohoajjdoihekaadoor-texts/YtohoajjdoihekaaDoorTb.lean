/-
  Runes: what the document's own reader gives is what range over a string goes by.
-/
import Derived.Test.YtohoajjdoihekaaDoorTa
set_option linter.unusedVariables false
set_option linter.unusedSimpArgs false
namespace Go.Proofs.YtohoajjdoihekaaDoor
open Go.RowKit
namespace cin
/-- the decoder, by its bytes -/
def dec (z i b0 b1 b2 b3 : Nat) : Nat × Nat :=
  if b0 < 128 then (b0, 1)
  else if b0 / 32 = 6 ∧ (i + 1 < z ∧ b1 / 64 = 2) then (if 128 ≤ b0 % 32 * 64 + b1 % 64 then (b0 % 32 * 64 + b1 % 64, 2) else (65533, 1))
  else if (b0 / 16 = 14 ∧ (i + 1 < z ∧ b1 / 64 = 2)) ∧ (i + 2 < z ∧ b2 / 64 = 2) then
    (if 2048 ≤ b0 % 16 * 4096 + b1 % 64 * 64 + b2 % 64 ∧ (b0 % 16 * 4096 + b1 % 64 * 64 + b2 % 64 < 55296 ∨ (57344 ≤ b0 % 16 * 4096 + b1 % 64 * 64 + b2 % 64 ∧ b0 % 16 * 4096 + b1 % 64 * 64 + b2 % 64 ≤ 1114111)) then (b0 % 16 * 4096 + b1 % 64 * 64 + b2 % 64, 3) else (65533, 1))
  else if ((b0 / 8 = 30 ∧ (i + 1 < z ∧ b1 / 64 = 2)) ∧ (i + 2 < z ∧ b2 / 64 = 2)) ∧ (i + 3 < z ∧ b3 / 64 = 2) then
    (if 65536 ≤ b0 % 8 * 262144 + b1 % 64 * 4096 + b2 % 64 * 64 + b3 % 64 ∧ (b0 % 8 * 262144 + b1 % 64 * 4096 + b2 % 64 * 64 + b3 % 64 < 55296 ∨ (57344 ≤ b0 % 8 * 262144 + b1 % 64 * 4096 + b2 % 64 * 64 + b3 % 64 ∧ b0 % 8 * 262144 + b1 % 64 * 4096 + b2 % 64 * 64 + b3 % 64 ≤ 1114111)) then (b0 % 8 * 262144 + b1 % 64 * 4096 + b2 % 64 * 64 + b3 % 64, 4) else (65533, 1))
  else (65533, 1)
theorem decode_dec (s : ByteArray) (i : Nat) : Utf8.decode s i = dec s.size i (byt s i) (byt s (i + 1)) (byt s (i + 2)) (byt s (i + 3)) := by
  have hv : ∀ c : Nat, Utf8.valid (c : Int) = true ↔ (c < 55296 ∨ (57344 ≤ c ∧ c ≤ 1114111)) := fun c => by
    unfold Utf8.valid
    simp only [Bool.or_eq_true, Bool.and_eq_true, decide_eq_true_eq]
    omega
  unfold Utf8.decode dec byt
  simp only [Bool.and_eq_true, decide_eq_true_eq, beq_iff_eq, ge_iff_le, hv, Nat.add_zero, Utf8.runeError]
/-- the width by the bytes -/
def wid (z i b0 b1 b2 b3 : Nat) : Nat := if dec z i b0 b1 b2 b3 = (65533, 1) then 0 else (dec z i b0 b1 b2 b3).2
theorem nx_wid (s : ByteArray) (i : Nat) : nx s i = wid s.size i (byt s i) (byt s (i + 1)) (byt s (i + 2)) (byt s (i + 3)) := by
  unfold nx wid
  rw [decode_dec]
theorem wid_of {z i b0 b1 b2 b3 c n : Nat} (h : dec z i b0 b1 b2 b3 = (c, n)) (hn : 2 ≤ n) : wid z i b0 b1 b2 b3 = n := by
  unfold wid
  rw [h, if_neg]
  intro e
  injection e with e1 e2
  omega
theorem wid_no {z i b0 b1 b2 b3 : Nat} (h : dec z i b0 b1 b2 b3 = (65533, 1)) : wid z i b0 b1 b2 b3 = 0 := by
  unfold wid
  rw [h, if_pos rfl]
theorem wid_a (z i b0 b1 b2 b3 : Nat) (h : b0 < 128) : wid z i b0 b1 b2 b3 = 1 := by
  unfold wid dec
  rw [if_pos h, if_neg]
  intro e
  injection e with e1 e2
  omega
theorem wid_z (z i b0 b1 b2 b3 : Nat) (h0 : 128 ≤ b0) (hl : b0 < 256) (h : b0 < 194 ∨ 245 ≤ b0) (hb1 : b1 < 256) (hb2 : b2 < 256) (hb3 : b3 < 256) : wid z i b0 b1 b2 b3 = 0 := by
  refine wid_no ?_
  unfold dec
  repeat' split
  all_goals first | rfl | (exfalso; omega)
theorem wid_2 (z i b0 b1 b2 b3 : Nat) (h1 : 194 ≤ b0) (h2 : b0 < 224) (hb1 : b1 < 256) : wid z i b0 b1 b2 b3 = if i + 2 ≤ z ∧ 128 ≤ b1 ∧ b1 ≤ 191 then 2 else 0 := by
  by_cases h : i + 2 ≤ z ∧ 128 ≤ b1 ∧ b1 ≤ 191
  · rw [if_pos h]
    refine wid_of (c := b0 % 32 * 64 + b1 % 64) ?_ (by omega)
    unfold dec
    rw [if_neg (by omega), if_pos (by omega), if_pos (by omega)]
  · rw [if_neg h]
    refine wid_no ?_
    unfold dec
    repeat' split
    all_goals first | rfl | (exfalso; omega)
theorem wid_3 (z i b0 b1 b2 b3 lo hi : Nat) (hb1 : b1 < 256) (hb2 : b2 < 256) (hc : (b0 = 224 ∧ lo = 160 ∧ hi = 191) ∨ (225 ≤ b0 ∧ b0 < 237 ∧ lo = 128 ∧ hi = 191) ∨ (b0 = 237 ∧ lo = 128 ∧ hi = 159) ∨ (238 ≤ b0 ∧ b0 < 240 ∧ lo = 128 ∧ hi = 191)) :
    wid z i b0 b1 b2 b3 = if i + 3 ≤ z ∧ (lo ≤ b1 ∧ b1 ≤ hi) ∧ (128 ≤ b2 ∧ b2 ≤ 191) then 3 else 0 := by
  by_cases h : i + 3 ≤ z ∧ (lo ≤ b1 ∧ b1 ≤ hi) ∧ (128 ≤ b2 ∧ b2 ≤ 191)
  · rw [if_pos h]
    refine wid_of (c := b0 % 16 * 4096 + b1 % 64 * 64 + b2 % 64) ?_ (by omega)
    unfold dec
    rw [if_neg (by omega), if_neg (by omega), if_pos (by omega), if_pos (by omega)]
  · rw [if_neg h]
    refine wid_no ?_
    unfold dec
    repeat' split
    all_goals first | rfl | (exfalso; omega)
theorem wid_4 (z i b0 b1 b2 b3 lo hi : Nat) (hb1 : b1 < 256) (hb2 : b2 < 256) (hb3 : b3 < 256) (hc : (b0 = 240 ∧ lo = 144 ∧ hi = 191) ∨ (241 ≤ b0 ∧ b0 < 244 ∧ lo = 128 ∧ hi = 191) ∨ (b0 = 244 ∧ lo = 128 ∧ hi = 143)) :
    wid z i b0 b1 b2 b3 = if i + 4 ≤ z ∧ (lo ≤ b1 ∧ b1 ≤ hi) ∧ (128 ≤ b2 ∧ b2 ≤ 191) ∧ (128 ≤ b3 ∧ b3 ≤ 191) then 4 else 0 := by
  by_cases h : i + 4 ≤ z ∧ (lo ≤ b1 ∧ b1 ≤ hi) ∧ (128 ≤ b2 ∧ b2 ≤ 191) ∧ (128 ≤ b3 ∧ b3 ≤ 191)
  · rw [if_pos h]
    refine wid_of (c := b0 % 8 * 262144 + b1 % 64 * 4096 + b2 % 64 * 64 + b3 % 64) ?_ (by omega)
    unfold dec
    rw [if_neg (by omega), if_neg (by omega), if_neg (by omega), if_pos (by omega), if_pos (by omega)]
  · rw [if_neg h]
    refine wid_no ?_
    unfold dec
    repeat' split
    all_goals first | rfl | (exfalso; omega)
theorem rd_if {s : ByteArray} {i n lo hi r : Nat} (h : Rd s i n lo hi r) (P : Prop) [Decidable P] (hP : (i + n ≤ s.size ∧ ∀ j, 1 ≤ j → j < n → good s i lo hi j) ↔ P) : r = if P then n else 0 := by
  rcases h with ⟨rfl, h⟩ | ⟨rfl, h⟩
  · rw [if_pos (hP.1 h)]
  · rw [if_neg (fun k => h (hP.2 k))]
theorem good1 (s : ByteArray) (i lo hi : Nat) : good s i lo hi 1 ↔ lo ≤ byt s (i + 1) ∧ byt s (i + 1) ≤ hi := by unfold good; rw [if_pos rfl]
theorem good2 (s : ByteArray) (i lo hi : Nat) : good s i lo hi 2 ↔ 128 ≤ byt s (i + 2) ∧ byt s (i + 2) ≤ 191 := by unfold good; rw [if_neg (by omega)]
theorem good3 (s : ByteArray) (i lo hi : Nat) : good s i lo hi 3 ↔ 128 ≤ byt s (i + 3) ∧ byt s (i + 3) ≤ 191 := by unfold good; rw [if_neg (by omega)]
theorem all2 (s : ByteArray) (i lo hi : Nat) : (i + 2 ≤ s.size ∧ ∀ j, 1 ≤ j → j < 2 → good s i lo hi j) ↔ (i + 2 ≤ s.size ∧ lo ≤ byt s (i + 1) ∧ byt s (i + 1) ≤ hi) := by
  refine and_congr_right fun _ => ⟨fun h => (good1 s i lo hi).1 (h 1 (by omega) (by omega)), fun h j h1 h2 => ?_⟩
  obtain rfl : j = 1 := by omega
  exact (good1 s i lo hi).2 h
theorem all3 (s : ByteArray) (i lo hi : Nat) : (i + 3 ≤ s.size ∧ ∀ j, 1 ≤ j → j < 3 → good s i lo hi j) ↔ (i + 3 ≤ s.size ∧ (lo ≤ byt s (i + 1) ∧ byt s (i + 1) ≤ hi) ∧ (128 ≤ byt s (i + 2) ∧ byt s (i + 2) ≤ 191)) := by
  refine and_congr_right fun _ => ⟨fun h => ⟨(good1 s i lo hi).1 (h 1 (by omega) (by omega)), (good2 s i lo hi).1 (h 2 (by omega) (by omega))⟩, fun h j h1 h2 => ?_⟩
  rcases (by omega : j = 1 ∨ j = 2) with rfl | rfl
  · exact (good1 s i lo hi).2 h.1
  · exact (good2 s i lo hi).2 h.2
theorem all4 (s : ByteArray) (i lo hi : Nat) : (i + 4 ≤ s.size ∧ ∀ j, 1 ≤ j → j < 4 → good s i lo hi j) ↔ (i + 4 ≤ s.size ∧ (lo ≤ byt s (i + 1) ∧ byt s (i + 1) ≤ hi) ∧ (128 ≤ byt s (i + 2) ∧ byt s (i + 2) ≤ 191) ∧ (128 ≤ byt s (i + 3) ∧ byt s (i + 3) ≤ 191)) := by
  refine and_congr_right fun _ => ⟨fun h => ⟨(good1 s i lo hi).1 (h 1 (by omega) (by omega)), (good2 s i lo hi).1 (h 2 (by omega) (by omega)), (good3 s i lo hi).1 (h 3 (by omega) (by omega))⟩, fun h j h1 h2 => ?_⟩
  rcases (by omega : j = 1 ∨ j = 2 ∨ j = 3) with rfl | rfl | rfl
  · exact (good1 s i lo hi).2 h.1
  · exact (good2 s i lo hi).2 h.2.1
  · exact (good3 s i lo hi).2 h.2.2
/-- THE READER OF A RUNE. -/
theorem next_any (s : ByteArray) (i : Nat) (hi : i < s.size) (hs : s.size ≤ 2000) (w : World) : Calls Tryd.prog 17 #[.string s, .int .i64 (i : Int)] w fun e w' => e = .returned (.int .i64 (nx s i : Int)) ∧ w' = w := by
  have l0 := byt_lt s i
  have l1 := byt_lt s (i + 1)
  have l2 := byt_lt s (i + 2)
  have l3 := byt_lt s (i + 3)
  have done : ∀ {n lo hi' : Nat}, (∀ r, Rd s i n lo hi' r → r = nx s i) → (Calls Tryd.prog 17 #[.string s, .int .i64 (i : Int)] w fun e w' => ∃ r : Nat, Rd s i n lo hi' r ∧ e = .returned (.int .i64 (r : Int)) ∧ w' = w) → Calls Tryd.prog 17 #[.string s, .int .i64 (i : Int)] w fun e w' => e = .returned (.int .i64 (nx s i : Int)) ∧ w' = w := by
    intro n lo hi' h hc
    refine hc.mono ?_
    rintro e w' ⟨r, hr, rfl, hw⟩
    exact ⟨by rw [h r hr], hw⟩
  by_cases hA : byt s i < 128
  · have h := nextA s i hi hs hA w
    rw [nx_wid, wid_a _ _ _ _ _ _ hA]
    exact h
  · by_cases hZ : byt s i < 194 ∨ 245 ≤ byt s i
    · have h := nextZ s i hi hs (by omega) hZ w
      rw [nx_wid, wid_z _ _ _ _ _ _ (by omega) l0 hZ l1 l2 l3]
      exact h
    · rcases (by omega : byt s i < 224 ∨ byt s i = 224 ∨ (225 ≤ byt s i ∧ byt s i < 237) ∨ byt s i = 237 ∨ (238 ≤ byt s i ∧ byt s i < 240) ∨ byt s i = 240 ∨ (241 ≤ byt s i ∧ byt s i < 244) ∨ byt s i = 244) with h | h | h | h | h | h | h | h
      · exact done (fun r hr => by rw [nx_wid, wid_2 _ _ _ _ _ _ (by omega) h l1]; exact rd_if hr _ (all2 s i 128 191)) (nextB s i hi hs (by omega) h w)
      · exact done (fun r hr => by rw [nx_wid, wid_3 _ _ _ _ _ _ 160 191 l1 l2 (by omega)]; exact rd_if hr _ (all3 s i 160 191)) (nextC s i hi hs h trivial w)
      · exact done (fun r hr => by rw [nx_wid, wid_3 _ _ _ _ _ _ 128 191 l1 l2 (by omega)]; exact rd_if hr _ (all3 s i 128 191)) (nextD s i hi hs h.1 h.2 w)
      · exact done (fun r hr => by rw [nx_wid, wid_3 _ _ _ _ _ _ 128 159 l1 l2 (by omega)]; exact rd_if hr _ (all3 s i 128 159)) (nextE s i hi hs h trivial w)
      · exact done (fun r hr => by rw [nx_wid, wid_3 _ _ _ _ _ _ 128 191 l1 l2 (by omega)]; exact rd_if hr _ (all3 s i 128 191)) (nextF s i hi hs h.1 h.2 w)
      · exact done (fun r hr => by rw [nx_wid, wid_4 _ _ _ _ _ _ 144 191 l1 l2 l3 (by omega)]; exact rd_if hr _ (all4 s i 144 191)) (nextG s i hi hs h trivial w)
      · exact done (fun r hr => by rw [nx_wid, wid_4 _ _ _ _ _ _ 128 191 l1 l2 l3 (by omega)]; exact rd_if hr _ (all4 s i 128 191)) (nextH s i hi hs h.1 h.2 w)
      · exact done (fun r hr => by rw [nx_wid, wid_4 _ _ _ _ _ _ 128 143 l1 l2 l3 (by omega)]; exact rd_if hr _ (all4 s i 128 143)) (nextI s i hi hs h trivial w)
end cin
end Go.Proofs.YtohoajjdoihekaaDoor
