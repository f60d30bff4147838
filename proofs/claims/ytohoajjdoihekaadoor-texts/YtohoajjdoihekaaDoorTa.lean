/-
  Runes: the document's own reader of one rune, by its bytes.
-/
import Derived.Test.YtohoajjdoihekaaDoorRows
import Derived.Test.YtohoajjdoihekaaDoorNumC
import Derived.WalkKit
import Derived.WalkSpells
import Derived.WalkLawsBesides
import Derived.BigRegion
set_option linter.unusedVariables false
set_option linter.unusedSimpArgs false
namespace Go.Proofs.YtohoajjdoihekaaDoor
open Go.RowKit
namespace cin
/-- byte number i -/
def byt (s : ByteArray) (i : Nat) : Nat := (s.get! i).toNat
theorem byt_lt (s : ByteArray) (i : Nat) : byt s i < 256 := (s.get! i).toNat_lt
theorem byt_at (s : ByteArray) (i : Nat) (h : i < s.size) : (s[i]'h).toNat = byt s i := by
  unfold byt
  have e : s.get! i = s[i]'h := by
    simp [ByteArray.get!, getElem!_pos, h]
    rfl
  rw [e]
theorem w64 (c : Nat) (h : c < 256) : wrap64 (c : Int) = (c : Int) := by unfold wrap64; omega
/-- is the byte j behind place i one that goes on? -/
def good (s : ByteArray) (i lo hi j : Nat) : Prop := if j = 1 then lo ≤ byt s (i + j) ∧ byt s (i + j) ≤ hi else 128 ≤ byt s (i + j) ∧ byt s (i + j) ≤ 191
/-- what a rune's reader gives -/
def Rd (s : ByteArray) (i n lo hi : Nat) (r : Nat) : Prop := (r = n ∧ i + n ≤ s.size ∧ ∀ j, 1 ≤ j → j < n → good s i lo hi j) ∨ (r = 0 ∧ ¬ (i + n ≤ s.size ∧ ∀ j, 1 ≤ j → j < n → good s i lo hi j))
/-- how many bytes the rune has that begins at a place; 0: none begins there -/
def nx (s : ByteArray) (i : Nat) : Nat := if Utf8.decode s i = (65533, 1) then 0 else (Utf8.decode s i).2
theorem nextA (s : ByteArray) (i : Nat) (hi : i < s.size) (hs : s.size ≤ 2000) (hc : byt s i < 128) (w : World) : Calls Tryd.prog 17 #[.string s, .int .i64 (i : Int)] w fun e w' => e = .returned (.int .i64 1) ∧ w' = w := by
  have hx := byt_at s i hi
  have hw := w64 _ (byt_lt s i)
  generalize byt s i = c at *
  have hd : decide ((c : Int) < 128) = true := by simp; omega
  go_enter Tryd.func17, Tryd.ntmps17
  go_wp2
  go_ret
  exact ⟨rfl, rfl⟩
set_option maxRecDepth 100000 in
theorem nextZ (s : ByteArray) (i : Nat) (hi : i < s.size) (hs : s.size ≤ 2000) (h0 : 128 ≤ byt s i) (hc : byt s i < 194 ∨ 245 ≤ byt s i) (w : World) : Calls Tryd.prog 17 #[.string s, .int .i64 (i : Int)] w fun e w' => e = .returned (.int .i64 0) ∧ w' = w := by
  have hx := byt_at s i hi
  have hw := w64 _ (byt_lt s i)
  generalize byt s i = c at *
  rcases hc with hc | hc
  · go_enter Tryd.func17, Tryd.ntmps17
    go_wp2
    go_ret
    exact ⟨rfl, rfl⟩
  · go_enter Tryd.func17, Tryd.ntmps17
    go_wp2
    go_ret
    exact ⟨rfl, rfl⟩
set_option maxRecDepth 100000 in
set_option maxHeartbeats 2000000 in
theorem nextB (s : ByteArray) (i : Nat) (hi : i < s.size) (hs : s.size ≤ 2000) (h1 : 194 ≤ byt s i) (h2 : byt s i < 224) (w : World) : Calls Tryd.prog 17 #[.string s, .int .i64 (i : Int)] w fun e w' => ∃ r : Nat, Rd s i 2 128 191 r ∧ e = .returned (.int .i64 (r : Int)) ∧ w' = w := by
  have hx := byt_at s i hi
  have hw := w64 _ (byt_lt s i)
  have hl := byt_lt s i
  generalize byt s i = c at *
  have d0 : decide ((c : Int) < 128) = false := by simp; omega
  have d1 : decide (194 ≤ (c : Int)) = true := by simp; omega
  have d2 : decide ((c : Int) < 224) = true := by simp; omega
  clear h1 h2 hl
  by_cases hn : i + 2 ≤ s.size
  · go_enter Tryd.func17, Tryd.ntmps17
    go_wp2
    go_loopw [7, 8, 9] (fun t7 t8 t9 wr => ∃ k lw hg : Nat, 1 ≤ k ∧ k ≤ 2 ∧ t9 = .int .i64 k ∧ t7 = .int .i64 lw ∧ t8 = .int .i64 hg ∧ Hid (lw = if k = 1 then 128 else 128) ∧ Hid (hg = if k = 1 then 191 else 191) ∧ Hid (∀ j, 1 ≤ j → j < k → good s i 128 191 j) ∧ Hid (wr = w))
       (fun _ _ t9 _ => 2 - (intOf t9).toNat)
    case atStart => exact ⟨1, 128, 191, by omega, by omega, rfl, rfl, rfl, rfl, rfl, fun j h1 h2 => by omega, rfl⟩
    case round =>
      clear hx hw
      obtain ⟨k, lw, hg, hk1, hk2, rfl, rfl, rfl, HL, HG, HA, HW⟩ := hrel
      by_cases hk : k < 2
      · have hx := byt_at s (i + k) (by omega)
        have hl := byt_lt s (i + k)
        have hw := w64 _ hl
        have HB : Hid (good s i 128 191 k ↔ lw ≤ byt s (i + k) ∧ byt s (i + k) ≤ hg) := by
          show _ ↔ _
          rw [HL.out, HG.out]
          unfold good
          by_cases e : k = 1
          · rw [if_pos e, if_pos e, if_pos e]
          · rw [if_neg e, if_neg e, if_neg e]
        generalize byt s (i + k) = b at *
        by_cases hlo : b < lw
        · go_wp2
          go_ret
          exact ⟨0, Or.inr ⟨rfl, fun h => by have := HB.out.1 (h.2 k hk1 hk); omega⟩, rfl, HW.out⟩
        · by_cases hhi : hg < b
          · go_wp2
            go_ret
            exact ⟨0, Or.inr ⟨rfl, fun h => by have := HB.out.1 (h.2 k hk1 hk); omega⟩, rfl, HW.out⟩
          · have HC : Hid (good s i 128 191 k) := HB.out.2 ⟨by omega, by omega⟩
            go_wp2
            go_roundw
            case rel =>
              refine ⟨k + 1, 128, 191, by omega, by omega, by go_num, rfl, rfl, ?_, ?_, fun j h1 h2 => ?_, HW⟩
              · show _ = _; rw [if_neg (by omega)]
              · show _ = _; rw [if_neg (by omega)]
              · rcases Nat.lt_or_ge j k with h | h
                · exact HA.out j h1 h
                · obtain rfl : j = k := by omega
                  exact HC.out
            case measure => simp [intOf]; omega
      · obtain rfl : k = 2 := by omega
        go_wp2
        go_ret
        exact ⟨2, Or.inl ⟨rfl, hn, HA.out⟩, rfl, HW.out⟩
  · go_enter Tryd.func17, Tryd.ntmps17
    go_wp2
    go_ret
    exact ⟨0, Or.inr ⟨rfl, fun h => hn h.1⟩, rfl, rfl⟩
set_option maxRecDepth 100000 in
set_option maxHeartbeats 2000000 in
theorem nextC (s : ByteArray) (i : Nat) (hi : i < s.size) (hs : s.size ≤ 2000) (h1 : byt s i = 224) (h2 : True) (w : World) : Calls Tryd.prog 17 #[.string s, .int .i64 (i : Int)] w fun e w' => ∃ r : Nat, Rd s i 3 160 191 r ∧ e = .returned (.int .i64 (r : Int)) ∧ w' = w := by
  have hx := byt_at s i hi
  have hw := w64 _ (byt_lt s i)
  have hl := byt_lt s i
  generalize byt s i = c at *
  by_cases hn : i + 3 ≤ s.size
  · go_enter Tryd.func17, Tryd.ntmps17
    go_wp2
    go_loopw [7, 8, 9] (fun t7 t8 t9 wr => ∃ k lw hg : Nat, 1 ≤ k ∧ k ≤ 3 ∧ t9 = .int .i64 k ∧ t7 = .int .i64 lw ∧ t8 = .int .i64 hg ∧ Hid (lw = if k = 1 then 160 else 128) ∧ Hid (hg = if k = 1 then 191 else 191) ∧ Hid (∀ j, 1 ≤ j → j < k → good s i 160 191 j) ∧ Hid (wr = w))
       (fun _ _ t9 _ => 3 - (intOf t9).toNat)
    case atStart => exact ⟨1, 160, 191, by omega, by omega, rfl, rfl, rfl, rfl, rfl, fun j h1 h2 => by omega, rfl⟩
    case round =>
      clear hx hw
      obtain ⟨k, lw, hg, hk1, hk2, rfl, rfl, rfl, HL, HG, HA, HW⟩ := hrel
      by_cases hk : k < 3
      · have hx := byt_at s (i + k) (by omega)
        have hl := byt_lt s (i + k)
        have hw := w64 _ hl
        have HB : Hid (good s i 160 191 k ↔ lw ≤ byt s (i + k) ∧ byt s (i + k) ≤ hg) := by
          show _ ↔ _
          rw [HL.out, HG.out]
          unfold good
          by_cases e : k = 1
          · rw [if_pos e, if_pos e, if_pos e]
          · rw [if_neg e, if_neg e, if_neg e]
        generalize byt s (i + k) = b at *
        by_cases hlo : b < lw
        · go_wp2
          go_ret
          exact ⟨0, Or.inr ⟨rfl, fun h => by have := HB.out.1 (h.2 k hk1 hk); omega⟩, rfl, HW.out⟩
        · by_cases hhi : hg < b
          · go_wp2
            go_ret
            exact ⟨0, Or.inr ⟨rfl, fun h => by have := HB.out.1 (h.2 k hk1 hk); omega⟩, rfl, HW.out⟩
          · have HC : Hid (good s i 160 191 k) := HB.out.2 ⟨by omega, by omega⟩
            go_wp2
            go_roundw
            case rel =>
              refine ⟨k + 1, 128, 191, by omega, by omega, by go_num, rfl, rfl, ?_, ?_, fun j h1 h2 => ?_, HW⟩
              · show _ = _; rw [if_neg (by omega)]
              · show _ = _; rw [if_neg (by omega)]
              · rcases Nat.lt_or_ge j k with h | h
                · exact HA.out j h1 h
                · obtain rfl : j = k := by omega
                  exact HC.out
            case measure => simp [intOf]; omega
      · obtain rfl : k = 3 := by omega
        go_wp2
        go_ret
        exact ⟨3, Or.inl ⟨rfl, hn, HA.out⟩, rfl, HW.out⟩
  · go_enter Tryd.func17, Tryd.ntmps17
    go_wp2
    go_ret
    exact ⟨0, Or.inr ⟨rfl, fun h => hn h.1⟩, rfl, rfl⟩
set_option maxRecDepth 100000 in
set_option maxHeartbeats 2000000 in
theorem nextD (s : ByteArray) (i : Nat) (hi : i < s.size) (hs : s.size ≤ 2000) (h1 : 225 ≤ byt s i) (h2 : byt s i < 237) (w : World) : Calls Tryd.prog 17 #[.string s, .int .i64 (i : Int)] w fun e w' => ∃ r : Nat, Rd s i 3 128 191 r ∧ e = .returned (.int .i64 (r : Int)) ∧ w' = w := by
  have hx := byt_at s i hi
  have hw := w64 _ (byt_lt s i)
  have hl := byt_lt s i
  generalize byt s i = c at *
  have d0 : decide ((c : Int) < 128) = false := by simp; omega
  have d1 : decide (194 ≤ (c : Int)) = true := by simp; omega
  have d2 : decide ((c : Int) < 224) = false := by simp; omega
  have d3 : decide (224 ≤ (c : Int)) = true := by simp; omega
  have d4 : decide ((c : Int) < 240) = true := by simp; omega
  have d5 : ((c : Int) == 224) = false := by simp; omega
  have d6 : ((c : Int) == 237) = false := by simp; omega
  clear h1 h2 hl
  by_cases hn : i + 3 ≤ s.size
  · go_enter Tryd.func17, Tryd.ntmps17
    go_wp2
    go_loopw [7, 8, 9] (fun t7 t8 t9 wr => ∃ k lw hg : Nat, 1 ≤ k ∧ k ≤ 3 ∧ t9 = .int .i64 k ∧ t7 = .int .i64 lw ∧ t8 = .int .i64 hg ∧ Hid (lw = if k = 1 then 128 else 128) ∧ Hid (hg = if k = 1 then 191 else 191) ∧ Hid (∀ j, 1 ≤ j → j < k → good s i 128 191 j) ∧ Hid (wr = w))
       (fun _ _ t9 _ => 3 - (intOf t9).toNat)
    case atStart => exact ⟨1, 128, 191, by omega, by omega, rfl, rfl, rfl, rfl, rfl, fun j h1 h2 => by omega, rfl⟩
    case round =>
      clear hx hw
      obtain ⟨k, lw, hg, hk1, hk2, rfl, rfl, rfl, HL, HG, HA, HW⟩ := hrel
      by_cases hk : k < 3
      · have hx := byt_at s (i + k) (by omega)
        have hl := byt_lt s (i + k)
        have hw := w64 _ hl
        have HB : Hid (good s i 128 191 k ↔ lw ≤ byt s (i + k) ∧ byt s (i + k) ≤ hg) := by
          show _ ↔ _
          rw [HL.out, HG.out]
          unfold good
          by_cases e : k = 1
          · rw [if_pos e, if_pos e, if_pos e]
          · rw [if_neg e, if_neg e, if_neg e]
        generalize byt s (i + k) = b at *
        by_cases hlo : b < lw
        · go_wp2
          go_ret
          exact ⟨0, Or.inr ⟨rfl, fun h => by have := HB.out.1 (h.2 k hk1 hk); omega⟩, rfl, HW.out⟩
        · by_cases hhi : hg < b
          · go_wp2
            go_ret
            exact ⟨0, Or.inr ⟨rfl, fun h => by have := HB.out.1 (h.2 k hk1 hk); omega⟩, rfl, HW.out⟩
          · have HC : Hid (good s i 128 191 k) := HB.out.2 ⟨by omega, by omega⟩
            go_wp2
            go_roundw
            case rel =>
              refine ⟨k + 1, 128, 191, by omega, by omega, by go_num, rfl, rfl, ?_, ?_, fun j h1 h2 => ?_, HW⟩
              · show _ = _; rw [if_neg (by omega)]
              · show _ = _; rw [if_neg (by omega)]
              · rcases Nat.lt_or_ge j k with h | h
                · exact HA.out j h1 h
                · obtain rfl : j = k := by omega
                  exact HC.out
            case measure => simp [intOf]; omega
      · obtain rfl : k = 3 := by omega
        go_wp2
        go_ret
        exact ⟨3, Or.inl ⟨rfl, hn, HA.out⟩, rfl, HW.out⟩
  · go_enter Tryd.func17, Tryd.ntmps17
    go_wp2
    go_ret
    exact ⟨0, Or.inr ⟨rfl, fun h => hn h.1⟩, rfl, rfl⟩
set_option maxRecDepth 100000 in
set_option maxHeartbeats 2000000 in
theorem nextE (s : ByteArray) (i : Nat) (hi : i < s.size) (hs : s.size ≤ 2000) (h1 : byt s i = 237) (h2 : True) (w : World) : Calls Tryd.prog 17 #[.string s, .int .i64 (i : Int)] w fun e w' => ∃ r : Nat, Rd s i 3 128 159 r ∧ e = .returned (.int .i64 (r : Int)) ∧ w' = w := by
  have hx := byt_at s i hi
  have hw := w64 _ (byt_lt s i)
  have hl := byt_lt s i
  generalize byt s i = c at *
  by_cases hn : i + 3 ≤ s.size
  · go_enter Tryd.func17, Tryd.ntmps17
    go_wp2
    go_loopw [7, 8, 9] (fun t7 t8 t9 wr => ∃ k lw hg : Nat, 1 ≤ k ∧ k ≤ 3 ∧ t9 = .int .i64 k ∧ t7 = .int .i64 lw ∧ t8 = .int .i64 hg ∧ Hid (lw = if k = 1 then 128 else 128) ∧ Hid (hg = if k = 1 then 159 else 191) ∧ Hid (∀ j, 1 ≤ j → j < k → good s i 128 159 j) ∧ Hid (wr = w))
       (fun _ _ t9 _ => 3 - (intOf t9).toNat)
    case atStart => exact ⟨1, 128, 159, by omega, by omega, rfl, rfl, rfl, rfl, rfl, fun j h1 h2 => by omega, rfl⟩
    case round =>
      clear hx hw
      obtain ⟨k, lw, hg, hk1, hk2, rfl, rfl, rfl, HL, HG, HA, HW⟩ := hrel
      by_cases hk : k < 3
      · have hx := byt_at s (i + k) (by omega)
        have hl := byt_lt s (i + k)
        have hw := w64 _ hl
        have HB : Hid (good s i 128 159 k ↔ lw ≤ byt s (i + k) ∧ byt s (i + k) ≤ hg) := by
          show _ ↔ _
          rw [HL.out, HG.out]
          unfold good
          by_cases e : k = 1
          · rw [if_pos e, if_pos e, if_pos e]
          · rw [if_neg e, if_neg e, if_neg e]
        generalize byt s (i + k) = b at *
        by_cases hlo : b < lw
        · go_wp2
          go_ret
          exact ⟨0, Or.inr ⟨rfl, fun h => by have := HB.out.1 (h.2 k hk1 hk); omega⟩, rfl, HW.out⟩
        · by_cases hhi : hg < b
          · go_wp2
            go_ret
            exact ⟨0, Or.inr ⟨rfl, fun h => by have := HB.out.1 (h.2 k hk1 hk); omega⟩, rfl, HW.out⟩
          · have HC : Hid (good s i 128 159 k) := HB.out.2 ⟨by omega, by omega⟩
            go_wp2
            go_roundw
            case rel =>
              refine ⟨k + 1, 128, 191, by omega, by omega, by go_num, rfl, rfl, ?_, ?_, fun j h1 h2 => ?_, HW⟩
              · show _ = _; rw [if_neg (by omega)]
              · show _ = _; rw [if_neg (by omega)]
              · rcases Nat.lt_or_ge j k with h | h
                · exact HA.out j h1 h
                · obtain rfl : j = k := by omega
                  exact HC.out
            case measure => simp [intOf]; omega
      · obtain rfl : k = 3 := by omega
        go_wp2
        go_ret
        exact ⟨3, Or.inl ⟨rfl, hn, HA.out⟩, rfl, HW.out⟩
  · go_enter Tryd.func17, Tryd.ntmps17
    go_wp2
    go_ret
    exact ⟨0, Or.inr ⟨rfl, fun h => hn h.1⟩, rfl, rfl⟩
set_option maxRecDepth 100000 in
set_option maxHeartbeats 2000000 in
theorem nextF (s : ByteArray) (i : Nat) (hi : i < s.size) (hs : s.size ≤ 2000) (h1 : 238 ≤ byt s i) (h2 : byt s i < 240) (w : World) : Calls Tryd.prog 17 #[.string s, .int .i64 (i : Int)] w fun e w' => ∃ r : Nat, Rd s i 3 128 191 r ∧ e = .returned (.int .i64 (r : Int)) ∧ w' = w := by
  have hx := byt_at s i hi
  have hw := w64 _ (byt_lt s i)
  have hl := byt_lt s i
  generalize byt s i = c at *
  have d0 : decide ((c : Int) < 128) = false := by simp; omega
  have d1 : decide (194 ≤ (c : Int)) = true := by simp; omega
  have d2 : decide ((c : Int) < 224) = false := by simp; omega
  have d3 : decide (224 ≤ (c : Int)) = true := by simp; omega
  have d4 : decide ((c : Int) < 240) = true := by simp; omega
  have d5 : ((c : Int) == 224) = false := by simp; omega
  have d6 : ((c : Int) == 237) = false := by simp; omega
  clear h1 h2 hl
  by_cases hn : i + 3 ≤ s.size
  · go_enter Tryd.func17, Tryd.ntmps17
    go_wp2
    go_loopw [7, 8, 9] (fun t7 t8 t9 wr => ∃ k lw hg : Nat, 1 ≤ k ∧ k ≤ 3 ∧ t9 = .int .i64 k ∧ t7 = .int .i64 lw ∧ t8 = .int .i64 hg ∧ Hid (lw = if k = 1 then 128 else 128) ∧ Hid (hg = if k = 1 then 191 else 191) ∧ Hid (∀ j, 1 ≤ j → j < k → good s i 128 191 j) ∧ Hid (wr = w))
       (fun _ _ t9 _ => 3 - (intOf t9).toNat)
    case atStart => exact ⟨1, 128, 191, by omega, by omega, rfl, rfl, rfl, rfl, rfl, fun j h1 h2 => by omega, rfl⟩
    case round =>
      clear hx hw
      obtain ⟨k, lw, hg, hk1, hk2, rfl, rfl, rfl, HL, HG, HA, HW⟩ := hrel
      by_cases hk : k < 3
      · have hx := byt_at s (i + k) (by omega)
        have hl := byt_lt s (i + k)
        have hw := w64 _ hl
        have HB : Hid (good s i 128 191 k ↔ lw ≤ byt s (i + k) ∧ byt s (i + k) ≤ hg) := by
          show _ ↔ _
          rw [HL.out, HG.out]
          unfold good
          by_cases e : k = 1
          · rw [if_pos e, if_pos e, if_pos e]
          · rw [if_neg e, if_neg e, if_neg e]
        generalize byt s (i + k) = b at *
        by_cases hlo : b < lw
        · go_wp2
          go_ret
          exact ⟨0, Or.inr ⟨rfl, fun h => by have := HB.out.1 (h.2 k hk1 hk); omega⟩, rfl, HW.out⟩
        · by_cases hhi : hg < b
          · go_wp2
            go_ret
            exact ⟨0, Or.inr ⟨rfl, fun h => by have := HB.out.1 (h.2 k hk1 hk); omega⟩, rfl, HW.out⟩
          · have HC : Hid (good s i 128 191 k) := HB.out.2 ⟨by omega, by omega⟩
            go_wp2
            go_roundw
            case rel =>
              refine ⟨k + 1, 128, 191, by omega, by omega, by go_num, rfl, rfl, ?_, ?_, fun j h1 h2 => ?_, HW⟩
              · show _ = _; rw [if_neg (by omega)]
              · show _ = _; rw [if_neg (by omega)]
              · rcases Nat.lt_or_ge j k with h | h
                · exact HA.out j h1 h
                · obtain rfl : j = k := by omega
                  exact HC.out
            case measure => simp [intOf]; omega
      · obtain rfl : k = 3 := by omega
        go_wp2
        go_ret
        exact ⟨3, Or.inl ⟨rfl, hn, HA.out⟩, rfl, HW.out⟩
  · go_enter Tryd.func17, Tryd.ntmps17
    go_wp2
    go_ret
    exact ⟨0, Or.inr ⟨rfl, fun h => hn h.1⟩, rfl, rfl⟩
set_option maxRecDepth 100000 in
set_option maxHeartbeats 2000000 in
theorem nextG (s : ByteArray) (i : Nat) (hi : i < s.size) (hs : s.size ≤ 2000) (h1 : byt s i = 240) (h2 : True) (w : World) : Calls Tryd.prog 17 #[.string s, .int .i64 (i : Int)] w fun e w' => ∃ r : Nat, Rd s i 4 144 191 r ∧ e = .returned (.int .i64 (r : Int)) ∧ w' = w := by
  have hx := byt_at s i hi
  have hw := w64 _ (byt_lt s i)
  have hl := byt_lt s i
  generalize byt s i = c at *
  by_cases hn : i + 4 ≤ s.size
  · go_enter Tryd.func17, Tryd.ntmps17
    go_wp2
    go_loopw [7, 8, 9] (fun t7 t8 t9 wr => ∃ k lw hg : Nat, 1 ≤ k ∧ k ≤ 4 ∧ t9 = .int .i64 k ∧ t7 = .int .i64 lw ∧ t8 = .int .i64 hg ∧ Hid (lw = if k = 1 then 144 else 128) ∧ Hid (hg = if k = 1 then 191 else 191) ∧ Hid (∀ j, 1 ≤ j → j < k → good s i 144 191 j) ∧ Hid (wr = w))
       (fun _ _ t9 _ => 4 - (intOf t9).toNat)
    case atStart => exact ⟨1, 144, 191, by omega, by omega, rfl, rfl, rfl, rfl, rfl, fun j h1 h2 => by omega, rfl⟩
    case round =>
      clear hx hw
      obtain ⟨k, lw, hg, hk1, hk2, rfl, rfl, rfl, HL, HG, HA, HW⟩ := hrel
      by_cases hk : k < 4
      · have hx := byt_at s (i + k) (by omega)
        have hl := byt_lt s (i + k)
        have hw := w64 _ hl
        have HB : Hid (good s i 144 191 k ↔ lw ≤ byt s (i + k) ∧ byt s (i + k) ≤ hg) := by
          show _ ↔ _
          rw [HL.out, HG.out]
          unfold good
          by_cases e : k = 1
          · rw [if_pos e, if_pos e, if_pos e]
          · rw [if_neg e, if_neg e, if_neg e]
        generalize byt s (i + k) = b at *
        by_cases hlo : b < lw
        · go_wp2
          go_ret
          exact ⟨0, Or.inr ⟨rfl, fun h => by have := HB.out.1 (h.2 k hk1 hk); omega⟩, rfl, HW.out⟩
        · by_cases hhi : hg < b
          · go_wp2
            go_ret
            exact ⟨0, Or.inr ⟨rfl, fun h => by have := HB.out.1 (h.2 k hk1 hk); omega⟩, rfl, HW.out⟩
          · have HC : Hid (good s i 144 191 k) := HB.out.2 ⟨by omega, by omega⟩
            go_wp2
            go_roundw
            case rel =>
              refine ⟨k + 1, 128, 191, by omega, by omega, by go_num, rfl, rfl, ?_, ?_, fun j h1 h2 => ?_, HW⟩
              · show _ = _; rw [if_neg (by omega)]
              · show _ = _; rw [if_neg (by omega)]
              · rcases Nat.lt_or_ge j k with h | h
                · exact HA.out j h1 h
                · obtain rfl : j = k := by omega
                  exact HC.out
            case measure => simp [intOf]; omega
      · obtain rfl : k = 4 := by omega
        go_wp2
        go_ret
        exact ⟨4, Or.inl ⟨rfl, hn, HA.out⟩, rfl, HW.out⟩
  · go_enter Tryd.func17, Tryd.ntmps17
    go_wp2
    go_ret
    exact ⟨0, Or.inr ⟨rfl, fun h => hn h.1⟩, rfl, rfl⟩
set_option maxRecDepth 100000 in
set_option maxHeartbeats 2000000 in
theorem nextH (s : ByteArray) (i : Nat) (hi : i < s.size) (hs : s.size ≤ 2000) (h1 : 241 ≤ byt s i) (h2 : byt s i < 244) (w : World) : Calls Tryd.prog 17 #[.string s, .int .i64 (i : Int)] w fun e w' => ∃ r : Nat, Rd s i 4 128 191 r ∧ e = .returned (.int .i64 (r : Int)) ∧ w' = w := by
  have hx := byt_at s i hi
  have hw := w64 _ (byt_lt s i)
  have hl := byt_lt s i
  generalize byt s i = c at *
  have d0 : decide ((c : Int) < 128) = false := by simp; omega
  have d1 : decide (194 ≤ (c : Int)) = true := by simp; omega
  have d2 : decide ((c : Int) < 224) = false := by simp; omega
  have d3 : decide (224 ≤ (c : Int)) = true := by simp; omega
  have d4 : decide ((c : Int) < 240) = false := by simp; omega
  have d5 : decide (240 ≤ (c : Int)) = true := by simp; omega
  have d6 : decide ((c : Int) < 245) = true := by simp; omega
  have d7 : ((c : Int) == 240) = false := by simp; omega
  have d8 : ((c : Int) == 244) = false := by simp; omega
  clear h1 h2 hl
  by_cases hn : i + 4 ≤ s.size
  · go_enter Tryd.func17, Tryd.ntmps17
    go_wp2
    go_loopw [7, 8, 9] (fun t7 t8 t9 wr => ∃ k lw hg : Nat, 1 ≤ k ∧ k ≤ 4 ∧ t9 = .int .i64 k ∧ t7 = .int .i64 lw ∧ t8 = .int .i64 hg ∧ Hid (lw = if k = 1 then 128 else 128) ∧ Hid (hg = if k = 1 then 191 else 191) ∧ Hid (∀ j, 1 ≤ j → j < k → good s i 128 191 j) ∧ Hid (wr = w))
       (fun _ _ t9 _ => 4 - (intOf t9).toNat)
    case atStart => exact ⟨1, 128, 191, by omega, by omega, rfl, rfl, rfl, rfl, rfl, fun j h1 h2 => by omega, rfl⟩
    case round =>
      clear hx hw
      obtain ⟨k, lw, hg, hk1, hk2, rfl, rfl, rfl, HL, HG, HA, HW⟩ := hrel
      by_cases hk : k < 4
      · have hx := byt_at s (i + k) (by omega)
        have hl := byt_lt s (i + k)
        have hw := w64 _ hl
        have HB : Hid (good s i 128 191 k ↔ lw ≤ byt s (i + k) ∧ byt s (i + k) ≤ hg) := by
          show _ ↔ _
          rw [HL.out, HG.out]
          unfold good
          by_cases e : k = 1
          · rw [if_pos e, if_pos e, if_pos e]
          · rw [if_neg e, if_neg e, if_neg e]
        generalize byt s (i + k) = b at *
        by_cases hlo : b < lw
        · go_wp2
          go_ret
          exact ⟨0, Or.inr ⟨rfl, fun h => by have := HB.out.1 (h.2 k hk1 hk); omega⟩, rfl, HW.out⟩
        · by_cases hhi : hg < b
          · go_wp2
            go_ret
            exact ⟨0, Or.inr ⟨rfl, fun h => by have := HB.out.1 (h.2 k hk1 hk); omega⟩, rfl, HW.out⟩
          · have HC : Hid (good s i 128 191 k) := HB.out.2 ⟨by omega, by omega⟩
            go_wp2
            go_roundw
            case rel =>
              refine ⟨k + 1, 128, 191, by omega, by omega, by go_num, rfl, rfl, ?_, ?_, fun j h1 h2 => ?_, HW⟩
              · show _ = _; rw [if_neg (by omega)]
              · show _ = _; rw [if_neg (by omega)]
              · rcases Nat.lt_or_ge j k with h | h
                · exact HA.out j h1 h
                · obtain rfl : j = k := by omega
                  exact HC.out
            case measure => simp [intOf]; omega
      · obtain rfl : k = 4 := by omega
        go_wp2
        go_ret
        exact ⟨4, Or.inl ⟨rfl, hn, HA.out⟩, rfl, HW.out⟩
  · go_enter Tryd.func17, Tryd.ntmps17
    go_wp2
    go_ret
    exact ⟨0, Or.inr ⟨rfl, fun h => hn h.1⟩, rfl, rfl⟩
set_option maxRecDepth 100000 in
set_option maxHeartbeats 2000000 in
theorem nextI (s : ByteArray) (i : Nat) (hi : i < s.size) (hs : s.size ≤ 2000) (h1 : byt s i = 244) (h2 : True) (w : World) : Calls Tryd.prog 17 #[.string s, .int .i64 (i : Int)] w fun e w' => ∃ r : Nat, Rd s i 4 128 143 r ∧ e = .returned (.int .i64 (r : Int)) ∧ w' = w := by
  have hx := byt_at s i hi
  have hw := w64 _ (byt_lt s i)
  have hl := byt_lt s i
  generalize byt s i = c at *
  by_cases hn : i + 4 ≤ s.size
  · go_enter Tryd.func17, Tryd.ntmps17
    go_wp2
    go_loopw [7, 8, 9] (fun t7 t8 t9 wr => ∃ k lw hg : Nat, 1 ≤ k ∧ k ≤ 4 ∧ t9 = .int .i64 k ∧ t7 = .int .i64 lw ∧ t8 = .int .i64 hg ∧ Hid (lw = if k = 1 then 128 else 128) ∧ Hid (hg = if k = 1 then 143 else 191) ∧ Hid (∀ j, 1 ≤ j → j < k → good s i 128 143 j) ∧ Hid (wr = w))
       (fun _ _ t9 _ => 4 - (intOf t9).toNat)
    case atStart => exact ⟨1, 128, 143, by omega, by omega, rfl, rfl, rfl, rfl, rfl, fun j h1 h2 => by omega, rfl⟩
    case round =>
      clear hx hw
      obtain ⟨k, lw, hg, hk1, hk2, rfl, rfl, rfl, HL, HG, HA, HW⟩ := hrel
      by_cases hk : k < 4
      · have hx := byt_at s (i + k) (by omega)
        have hl := byt_lt s (i + k)
        have hw := w64 _ hl
        have HB : Hid (good s i 128 143 k ↔ lw ≤ byt s (i + k) ∧ byt s (i + k) ≤ hg) := by
          show _ ↔ _
          rw [HL.out, HG.out]
          unfold good
          by_cases e : k = 1
          · rw [if_pos e, if_pos e, if_pos e]
          · rw [if_neg e, if_neg e, if_neg e]
        generalize byt s (i + k) = b at *
        by_cases hlo : b < lw
        · go_wp2
          go_ret
          exact ⟨0, Or.inr ⟨rfl, fun h => by have := HB.out.1 (h.2 k hk1 hk); omega⟩, rfl, HW.out⟩
        · by_cases hhi : hg < b
          · go_wp2
            go_ret
            exact ⟨0, Or.inr ⟨rfl, fun h => by have := HB.out.1 (h.2 k hk1 hk); omega⟩, rfl, HW.out⟩
          · have HC : Hid (good s i 128 143 k) := HB.out.2 ⟨by omega, by omega⟩
            go_wp2
            go_roundw
            case rel =>
              refine ⟨k + 1, 128, 191, by omega, by omega, by go_num, rfl, rfl, ?_, ?_, fun j h1 h2 => ?_, HW⟩
              · show _ = _; rw [if_neg (by omega)]
              · show _ = _; rw [if_neg (by omega)]
              · rcases Nat.lt_or_ge j k with h | h
                · exact HA.out j h1 h
                · obtain rfl : j = k := by omega
                  exact HC.out
            case measure => simp [intOf]; omega
      · obtain rfl : k = 4 := by omega
        go_wp2
        go_ret
        exact ⟨4, Or.inl ⟨rfl, hn, HA.out⟩, rfl, HW.out⟩
  · go_enter Tryd.func17, Tryd.ntmps17
    go_wp2
    go_ret
    exact ⟨0, Or.inr ⟨rfl, fun h => hn h.1⟩, rfl, rfl⟩
end cin
end Go.Proofs.YtohoajjdoihekaaDoor
