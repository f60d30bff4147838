/-
  Texts: runs of runes; an item of a text, plainly. No call is walked here.
-/
import Derived.Test.YtohoajjdoihekaaDoorTp
import Derived.Test.YtohoajjdoihekaaDoorTt
set_option linter.unusedVariables false
set_option linter.unusedSimpArgs false
namespace Go.Proofs.YtohoajjdoihekaaDoor
open Go.RowKit
namespace cin
theorem wid_same (z i z' i' b0 b1 b2 b3 c1 c2 c3 n : Nat) (h0 : b0 < 256) (h1 : b1 < 256) (h2 : b2 < 256) (h3 : b3 < 256) (k1 : c1 < 256) (k2 : c2 < 256) (k3 : c3 < 256)
    (h : wid z i b0 b1 b2 b3 = n) (hn : n ≠ 0) (hz : i' + n ≤ z') (e1 : 2 ≤ n → c1 = b1) (e2 : 3 ≤ n → c2 = b2) (e3 : 4 ≤ n → c3 = b3) : wid z' i' b0 c1 c2 c3 = n := by
  by_cases hA : b0 < 128
  · rw [wid_a _ _ _ _ _ _ hA] at h ⊢
    exact h
  · by_cases hZ : b0 < 194 ∨ 245 ≤ b0
    · rw [wid_z _ _ _ _ _ _ (by omega) h0 hZ h1 h2 h3] at h
      exact absurd h.symm hn
    · have t2 : b0 < 224 → wid z' i' b0 c1 c2 c3 = n := fun hb => by
        rw [wid_2 _ _ _ _ _ _ (by omega) hb h1] at h
        rw [wid_2 _ _ _ _ _ _ (by omega) hb k1]
        split at h
        · subst h
          rw [if_pos]
          have := e1 (by omega)
          omega
        · exact absurd h.symm hn
      have t3 : ∀ lo hi : Nat, ((b0 = 224 ∧ lo = 160 ∧ hi = 191) ∨ (225 ≤ b0 ∧ b0 < 237 ∧ lo = 128 ∧ hi = 191) ∨ (b0 = 237 ∧ lo = 128 ∧ hi = 159) ∨ (238 ≤ b0 ∧ b0 < 240 ∧ lo = 128 ∧ hi = 191)) → wid z' i' b0 c1 c2 c3 = n := fun lo hi hc => by
        rw [wid_3 _ _ _ _ _ _ lo hi h1 h2 hc] at h
        rw [wid_3 _ _ _ _ _ _ lo hi k1 k2 hc]
        split at h
        · subst h
          rw [if_pos]
          have := e1 (by omega)
          have := e2 (by omega)
          omega
        · exact absurd h.symm hn
      have t4 : ∀ lo hi : Nat, ((b0 = 240 ∧ lo = 144 ∧ hi = 191) ∨ (241 ≤ b0 ∧ b0 < 244 ∧ lo = 128 ∧ hi = 191) ∨ (b0 = 244 ∧ lo = 128 ∧ hi = 143)) → wid z' i' b0 c1 c2 c3 = n := fun lo hi hc => by
        rw [wid_4 _ _ _ _ _ _ lo hi h1 h2 h3 hc] at h
        rw [wid_4 _ _ _ _ _ _ lo hi k1 k2 k3 hc]
        split at h
        · subst h
          rw [if_pos]
          have := e1 (by omega)
          have := e2 (by omega)
          have := e3 (by omega)
          omega
        · exact absurd h.symm hn
      rcases (by omega : b0 < 224 ∨ b0 = 224 ∨ (225 ≤ b0 ∧ b0 < 237) ∨ b0 = 237 ∨ (238 ≤ b0 ∧ b0 < 240) ∨ b0 = 240 ∨ (241 ≤ b0 ∧ b0 < 244) ∨ b0 = 244) with h | h | h | h | h | h | h | h
      · exact t2 h
      · exact t3 160 191 (by omega)
      · exact t3 128 191 (by omega)
      · exact t3 128 159 (by omega)
      · exact t3 128 191 (by omega)
      · exact t4 144 191 (by omega)
      · exact t4 128 191 (by omega)
      · exact t4 128 143 (by omega)
theorem wid_last (z i b0 b1 b2 b3 n : Nat) (h0 : b0 < 256) (h1 : b1 < 256) (h2 : b2 < 256) (h3 : b3 < 256) (h : wid z i b0 b1 b2 b3 = n) (hn : n ≠ 0) : (n = 1 ∧ b0 < 128) ∨ (n = 2 ∧ 128 ≤ b0 ∧ 128 ≤ b1) ∨ (n = 3 ∧ 128 ≤ b0 ∧ 128 ≤ b2) ∨ (n = 4 ∧ 128 ≤ b0 ∧ 128 ≤ b3) := by
  by_cases hA : b0 < 128
  · rw [wid_a _ _ _ _ _ _ hA] at h
    omega
  · by_cases hZ : b0 < 194 ∨ 245 ≤ b0
    · rw [wid_z _ _ _ _ _ _ (by omega) h0 hZ h1 h2 h3] at h
      exact absurd h.symm hn
    · have t2 : b0 < 224 → (n = 2 ∧ 128 ≤ b0 ∧ 128 ≤ b1) := fun hb => by
        rw [wid_2 _ _ _ _ _ _ (by omega) hb h1] at h
        split at h
        · omega
        · exact absurd h.symm hn
      have t3 : ∀ lo hi : Nat, ((b0 = 224 ∧ lo = 160 ∧ hi = 191) ∨ (225 ≤ b0 ∧ b0 < 237 ∧ lo = 128 ∧ hi = 191) ∨ (b0 = 237 ∧ lo = 128 ∧ hi = 159) ∨ (238 ≤ b0 ∧ b0 < 240 ∧ lo = 128 ∧ hi = 191)) → (n = 3 ∧ 128 ≤ b0 ∧ 128 ≤ b2) := fun lo hi hc => by
        rw [wid_3 _ _ _ _ _ _ lo hi h1 h2 hc] at h
        split at h
        · omega
        · exact absurd h.symm hn
      have t4 : ∀ lo hi : Nat, ((b0 = 240 ∧ lo = 144 ∧ hi = 191) ∨ (241 ≤ b0 ∧ b0 < 244 ∧ lo = 128 ∧ hi = 191) ∨ (b0 = 244 ∧ lo = 128 ∧ hi = 143)) → (n = 4 ∧ 128 ≤ b0 ∧ 128 ≤ b3) := fun lo hi hc => by
        rw [wid_4 _ _ _ _ _ _ lo hi h1 h2 h3 hc] at h
        split at h
        · omega
        · exact absurd h.symm hn
      rcases (by omega : b0 < 224 ∨ b0 = 224 ∨ (225 ≤ b0 ∧ b0 < 237) ∨ b0 = 237 ∨ (238 ≤ b0 ∧ b0 < 240) ∨ b0 = 240 ∨ (241 ≤ b0 ∧ b0 < 244) ∨ b0 = 244) with h | h | h | h | h | h | h | h
      · exact Or.inr (Or.inl (t2 h))
      · exact Or.inr (Or.inr (Or.inl (t3 160 191 (by omega))))
      · exact Or.inr (Or.inr (Or.inl (t3 128 191 (by omega))))
      · exact Or.inr (Or.inr (Or.inl (t3 128 159 (by omega))))
      · exact Or.inr (Or.inr (Or.inl (t3 128 191 (by omega))))
      · exact Or.inr (Or.inr (Or.inr (t4 144 191 (by omega))))
      · exact Or.inr (Or.inr (Or.inr (t4 128 191 (by omega))))
      · exact Or.inr (Or.inr (Or.inr (t4 128 143 (by omega))))
theorem byt_sub (s : ByteArray) (b e p : Nat) (h : p < e - b) : byt (s.extract b e) p = byt s (b + p) := by
  rw [byt_bl, byt_bl, bl_sub, List.getD_eq_getElem?_getD, List.getD_eq_getElem?_getD, List.getElem?_take, if_pos h, List.getElem?_drop]
theorem nx_sub (s : ByteArray) (b e p : Nat) (he : e ≤ s.size) (h0 : nx s (b + p) ≠ 0) (h : b + p + nx s (b + p) ≤ e) : nx (s.extract b e) p = nx s (b + p) := by
  rw [nx_wid, nx_wid]
  rw [nx_wid] at h0 h
  have hs : (s.extract b e).size = e - b := by rw [ByteArray.size_extract]; omega
  have hl := wid_last _ _ _ _ _ _ _ (byt_lt _ _) (byt_lt _ _) (byt_lt _ _) (byt_lt _ _) (Eq.refl (wid s.size (b + p) (byt s (b + p)) (byt s (b + p + 1)) (byt s (b + p + 2)) (byt s (b + p + 3)))) h0
  have hb0 : byt (s.extract b e) p = byt s (b + p) := byt_sub s b e p (by omega)
  rw [hb0, hs]
  refine wid_same _ _ _ _ _ _ _ _ _ _ _ _ (byt_lt _ _) (byt_lt _ _) (byt_lt _ _) (byt_lt _ _) (byt_lt _ _) (byt_lt _ _) (byt_lt _ _) rfl h0 (by omega) (fun k => ?_) (fun k => ?_) (fun k => ?_)
  · rw [byt_sub s b e (p + 1) (by omega)]; rfl
  · rw [byt_sub s b e (p + 2) (by omega)]; rfl
  · rw [byt_sub s b e (p + 3) (by omega)]; rfl
/-- from place b rune by rune to place e -/
def RunN (s : ByteArray) (b : Nat) : Nat → Nat → Prop
  | 0, e => e = b
  | n + 1, e => ∃ c, RunN s b n c ∧ c < s.size ∧ nx s c ≠ 0 ∧ e = c + nx s c
def Run (s : ByteArray) (b e : Nat) : Prop := ∃ n, RunN s b n e
theorem Run.here {s : ByteArray} {b : Nat} : Run s b b := ⟨0, rfl⟩
theorem Run.step {s : ByteArray} {b e : Nat} (h : Run s b e) (hp : e < s.size) (h0 : nx s e ≠ 0) : Run s b (e + nx s e) := by
  obtain ⟨n, h⟩ := h
  exact ⟨n + 1, e, h, hp, h0, rfl⟩
theorem Run.rec' {s : ByteArray} {b : Nat} {C : Nat → Prop} (h0 : C b) (h1 : ∀ e, Run s b e → e < s.size → nx s e ≠ 0 → C e → C (e + nx s e)) {e : Nat} (h : Run s b e) : C e := by
  obtain ⟨n, h⟩ := h
  induction n generalizing e with
  | zero => rw [show e = b from h]; exact h0
  | succ n ih =>
    obtain ⟨c, hr, hp, hx, rfl⟩ := h
    exact h1 c ⟨n, hr⟩ hp hx (ih hr)
theorem Run.le {s : ByteArray} {b e : Nat} (h : Run s b e) : b ≤ e := Run.rec' (C := fun e => b ≤ e) (Nat.le_refl _) (fun _ _ _ _ ih => Nat.le_trans ih (Nat.le_add_right _ _)) h
theorem Run.sub {s : ByteArray} {b e c : Nat} (h : Run s b e) (hc : c ≤ s.size) (he : e ≤ c) : Run (s.extract b c) 0 (e - b) := by
  refine Run.rec' (C := fun e => e ≤ c → Run (s.extract b c) 0 (e - b)) (fun _ => by rw [Nat.sub_self]; exact Run.here) (fun e hr hp h0 ih he => ?_) h he
  · have hb := hr.le
    have hs : (s.extract b c).size = c - b := by rw [ByteArray.size_extract]; omega
    have e1 : b + (e - b) = e := by omega
    have hn := nx_sub s b c (e - b) hc (by rw [e1]; exact h0) (by rw [e1]; exact he)
    rw [e1] at hn
    have h2 := Run.step (ih (by omega)) (by omega) (by rw [hn]; exact h0)
    rw [hn] at h2
    rw [show e + nx s e - b = e - b + nx s e by omega]
    exact h2
theorem Run.cnt {s : ByteArray} {e : Nat} (h : Run s 0 e) (he : e ≤ s.size) : ∃ f k : Nat, s.size ≤ e + f ∧ cntF s f e k = cin.cnt s := by
  refine Run.rec' (C := fun e => e ≤ s.size → ∃ f k : Nat, s.size ≤ e + f ∧ cntF s f e k = cin.cnt s) (fun _ => ⟨s.size, 0, by omega, rfl⟩) (fun e hr hp h0 ih he => ?_) h he
  · obtain ⟨f, k, h1, h2⟩ := ih (by omega)
    exact ⟨f - 1, k + 1, by omega, cnt_step hp h0 (by omega) h2⟩
/-- whole: all its bytes belong to runes -/
def Whole (s : ByteArray) : Prop := Run s 0 s.size
theorem Whole.cnt {s : ByteArray} (h : Whole s) : (cin.cnt s).2 = true := by
  obtain ⟨f, k, _, h2⟩ := Run.cnt h (Nat.le_refl _)
  rw [← h2, cntF_end s f s.size k (by omega)]
theorem Run.whole {s : ByteArray} {b e : Nat} (h : Run s b e) (he : e ≤ s.size) : Whole (s.extract b e) := by
  have h2 := h.sub he (Nat.le_refl _)
  unfold Whole
  rw [ByteArray.size_extract, Nat.min_eq_left he]
  exact h2
theorem Run.behind {s : ByteArray} {b e : Nat} (h : Run s b e) : e = b ∨ Run s (b + nx s b) e := by
  refine Run.rec' (C := fun e => e = b ∨ Run s (b + nx s b) e) (Or.inl rfl) (fun e hr hp h0 ih => ?_) h
  rcases ih with rfl | ih
  · exact Or.inr Run.here
  · exact Or.inr (ih.step hp h0)
theorem Run.last {s : ByteArray} {b e : Nat} (h : Run s b e) : e = b ∨ ∃ c, Run s b c ∧ c < s.size ∧ nx s c ≠ 0 ∧ e = c + nx s c := by
  obtain ⟨n, h⟩ := h
  cases n with
  | zero => exact Or.inl h
  | succ n =>
    obtain ⟨c, hr, hp, h0, e⟩ := h
    exact Or.inr ⟨c, ⟨n, hr⟩, hp, h0, e⟩
/-- whole without an ASCII sign at its end -/
theorem Whole.butLast {s : ByteArray} (h : Whole s) (hs : 0 < s.size) (hc : byt s (s.size - 1) < 128) : Whole (s.extract 0 (s.size - 1)) := by
  rcases Run.last h with h0 | ⟨c, hr, hp, h0, he⟩
  · omega
  · have hl := wid_last _ _ _ _ _ _ _ (byt_lt _ _) (byt_lt _ _) (byt_lt _ _) (byt_lt _ _) (nx_wid s c).symm h0
    have h1 : nx s c = 1 := by
      rcases hl with ⟨h, _⟩ | ⟨h, _, h2⟩ | ⟨h, _, h2⟩ | ⟨h, _, h2⟩
      · exact h
      · rw [show c + 1 = s.size - 1 by omega] at h2; omega
      · rw [show c + 2 = s.size - 1 by omega] at h2; omega
      · rw [show c + 3 = s.size - 1 by omega] at h2; omega
    obtain rfl : c = s.size - 1 := by omega
    exact hr.whole (by omega)
theorem nx_ascii (s : ByteArray) (p : Nat) (h : byt s p < 128) : nx s p = 1 := by rw [nx_wid, wid_a _ _ _ _ _ _ h]
/-- whole without an ASCII sign at its head -/
theorem Whole.butFirst {s : ByteArray} (h : Whole s) (hs : 0 < s.size) (hc : byt s 0 < 128) : Whole (s.extract 1 s.size) := by
  rcases Run.behind h with h0 | h1
  · omega
  · rw [nx_ascii s 0 hc] at h1
    exact h1.whole (Nat.le_refl _)
/-- a text that is whole, by its count -/
theorem whole_of {s : ByteArray} : ∀ (f p k : Nat), Run s 0 p → p ≤ s.size → s.size ≤ p + f → (cntF s f p k).2 = true → Whole s
  | 0, p, k, hr, hp, hf, h => by
    obtain rfl : p = s.size := by omega
    exact hr
  | f + 1, p, k, hr, hp, hf, h => by
    by_cases hlt : p < s.size
    · obtain ⟨h0, h2⟩ := cntF_ok hlt (by omega) h
      have hle := nx_le s p hlt h0
      exact whole_of f (p + nx s p) (k + 1) (hr.step hlt h0) hle (by omega) h2
    · obtain rfl : p = s.size := by omega
      exact hr
theorem whole_cnt {s : ByteArray} (h : (cin.cnt s).2 = true) : Whole s := whole_of s.size 0 0 Run.here (by omega) (by omega) h
-- names of instructions
theorem named_out (l : List UInt8) (h : l ∉ keys) : namedL l = none := by
  have hd : ∀ j, j < 16 → l ≠ bl (dup j) := fun j hj e => h (e ▸ dup_key j hj)
  have hsw : ∀ j, j < 16 → l ≠ bl (swp j) := fun j hj e => h (e ▸ swp_key j hj)
  have hg : ∀ j, j < 5 → l ≠ bl (lgs j) := fun j hj e => h (e ▸ lgs_key j hj)
  unfold namedL
  rw [sub_keys tabRec (by kernel_rfl) l h, sub_keys tabCmp (by kernel_rfl) l h, sub_keys tabSur (by kernel_rfl) l h, sub_keys tabKee (by kernel_rfl) l h, rowA_out l 16 0 (fun j _ hj => ⟨hd j (by omega), hsw j (by omega)⟩), rowB_out l 5 0 (fun j _ hj => hg j (by omega))]
  rfl
def keyOk (l : List UInt8) : Bool := decide (65 ≤ (l.getD 0 0).toNat) && decide ((l.getD 0 0).toNat ≤ 90) && decide ((namedL l).getD 0 < 256)
theorem keys_ok : (keys.all keyOk) = true := by kernel_rfl
theorem named_ok {s : ByteArray} {v : Nat} (h : named s = some v) : 65 ≤ byt s 0 ∧ byt s 0 ≤ 90 ∧ v < 256 := by
  rw [named_l] at h
  have hk : bl s ∈ keys := by
    refine Decidable.byContradiction fun hn => ?_
    rw [named_out _ hn] at h
    cases h
  have h2 := List.all_eq_true.1 keys_ok _ hk
  unfold keyOk at h2
  simp only [Bool.and_eq_true, decide_eq_true_eq] at h2
  rw [h] at h2
  rw [byt_bl]
  exact ⟨h2.1.1, h2.1.2, h2.2⟩
/-- what has an instruction's name is no number -/
theorem named_none {s : ByteArray} {v : Nat} (h : named s = some v) : nres (nt s) (nb s) = none := by
  obtain ⟨h1, h2, _⟩ := named_ok h
  have hsz : 0 < s.size := by
    refine Decidable.byContradiction fun hn => ?_
    have : byt s 0 = 0 := by
      rw [byt_bl]
      have hl : bl s = [] := List.length_eq_zero_iff.1 (by show s.size = 0; omega)
      rw [hl]; rfl
    omega
  have hx : (decide (2 < s.size) && ((s.extract 0 2).toList == x0.toList)) = false := by
    rw [Bool.and_eq_false_iff]
    right
    rw [Go.ByteArray.toList_eq, Go.ByteArray.toList_eq, beq_eq_false_iff_ne]
    intro e
    have e2 : bl (s.extract 0 2) = bl x0 := e
    have hb : byt (s.extract 0 2) 0 = byt s (0 + 0) := byt_sub s 0 2 0 (by omega)
    have hb2 : byt (s.extract 0 2) 0 = 48 := by rw [byt_bl, e2]; rfl
    rw [Nat.add_zero] at hb
    omega
  have hnt : nt s = s := by unfold nt; rw [hx]; rfl
  have hnb : nb s = 10 := by unfold nb; rw [hx]; rfl
  rw [hnt, hnb]
  have hd : ¬ dgt (byt s 0) < 10 := by
    unfold dgt
    rw [if_neg (by omega), if_neg (by omega)]
    omega
  have hn : num s 10 = none := num_no hsz hd hsz rfl
  unfold nres
  rw [hn]
-- an item
def col : ByteArray := ⟨#[58]⟩
def att : ByteArray := ⟨#[64]⟩
structure It where
  k : Nat
  nm : ByteArray
  cd : List UInt8
  fl : Nat
def itN (s : ByteArray) : It := match named s with
  | some v => ⟨0, ⟨#[]⟩, [UInt8.ofNat v], 0⟩
  | none => match nres (nt s) (nb s) with
    | none => ⟨0, ⟨#[]⟩, [], 2⟩
    | some (n, g) => if g then ⟨0, ⟨#[]⟩, [], 4⟩ else ⟨0, ⟨#[]⟩, pcode n, 0⟩
def isL (s : ByteArray) : Bool := sf s col && nm (cutS s col)
def isA (s : ByteArray) : Bool := pf s att && nm (cutP s att)
def itm (s : ByteArray) : It := if isL s then ⟨1, cutS s col, [91], 0⟩ else if isA s then ⟨2, cutP s att, [97, 0, 0], 0⟩ else itN s
theorem sf_col (s : ByteArray) : sf s col = (decide (1 ≤ s.size) && decide (byt s (s.size - 1) = 58)) := by
  unfold sf
  show (decide (1 ≤ s.size) && _) = _
  by_cases h : 1 ≤ s.size
  · rw [decide_eq_true h, Bool.true_and, Bool.true_and, Go.ByteArray.toList_eq, Go.ByteArray.toList_eq]
    show (bl (s.extract (s.size - 1) s.size) == [58]) = _
    have hl : (bl s).length = s.size := rfl
    rw [bl_sub, byt_bl]
    have hd : (bl s).drop (s.size - 1) = [(bl s).getD (s.size - 1) 0] := by
      rw [List.drop_eq_getElem_cons (by omega), List.drop_of_length_le (by omega), List.getD_eq_getElem?_getD, List.getElem?_eq_getElem (by omega)]
      rfl
    rw [hd, show s.size - (s.size - 1) = 1 by omega, Bool.eq_iff_iff, beq_iff_eq, decide_eq_true_eq]
    generalize (bl s).getD (s.size - 1) 0 = c
    constructor
    · intro e
      have e2 : c = 58 := by injection e
      rw [e2]; rfl
    · intro e
      have e2 : c = 58 := UInt8.toNat_inj.1 e
      rw [e2]; rfl
  · rw [decide_eq_false h, Bool.false_and, Bool.false_and]
theorem pf_att (s : ByteArray) (h : 0 < s.size) : pf s att = decide (byt s 0 = 64) := by
  obtain ⟨c, r, e, hc⟩ := byt0 h
  rw [pf_list, e, ← hc]
  show (([64] : List UInt8).isPrefixOf (c :: r)) = _
  rw [Bool.eq_iff_iff, decide_eq_true_eq]
  simp only [List.isPrefixOf, Bool.and_true, beq_iff_eq]
  constructor
  · intro e; rw [← e]; rfl
  · intro e; exact (UInt8.toNat_inj.1 e).symm
theorem nm_empty {s : ByteArray} (h : s.size = 0) : nm s = false := by unfold nm; rw [nmF_end s s.size 0 0 (by omega)]; rfl
/-- is it a label? the document's words -/
theorem isL_eq (s : ByteArray) (hs : 0 < s.size) : isL s = (decide (1 < s.size) && decide (byt s (s.size - 1) = 58) && nm (s.extract 0 (s.size - 1))) := by
  unfold isL
  rw [sf_col, decide_eq_true (show 1 ≤ s.size by omega), Bool.true_and]
  have hc : sf s col = decide (byt s (s.size - 1) = 58) := by rw [sf_col, decide_eq_true (show 1 ≤ s.size by omega), Bool.true_and]
  cases hb : decide (byt s (s.size - 1) = 58)
  · rw [Bool.false_and, Bool.and_false, Bool.false_and]
  · have hcut : cutS s col = s.extract 0 (s.size - 1) := by unfold cutS; rw [hc, hb]; rfl
    rw [hcut, Bool.true_and, Bool.and_true]
    by_cases h1 : 1 < s.size
    · rw [decide_eq_true h1, Bool.true_and]
    · rw [decide_eq_false h1, Bool.false_and]
      exact nm_empty (by rw [ByteArray.size_extract]; omega)
theorem isA_eq (s : ByteArray) (hs : 0 < s.size) : isA s = (decide (byt s 0 = 64) && nm (s.extract 1 s.size)) := by
  unfold isA
  rw [pf_att s hs]
  cases hb : decide (byt s 0 = 64)
  · rw [Bool.false_and, Bool.false_and]
  · have hcut : cutP s att = s.extract 1 s.size := by unfold cutP; rw [pf_att s hs, hb]; rfl
    rw [hcut]
theorem cut_col {s : ByteArray} (h : sf s col = true) : cutS s col = s.extract 0 (s.size - 1) := by unfold cutS; rw [h]; rfl
theorem cut_att {s : ByteArray} (h : pf s att = true) : cutP s att = s.extract 1 s.size := by unfold cutP; rw [h]; rfl
theorem itN_some {s : ByteArray} {v : Nat} (h : named s = some v) : itN s = ⟨0, ⟨#[]⟩, [UInt8.ofNat v], 0⟩ := by unfold itN; rw [h]
theorem itN_none {s : ByteArray} (h : named s = none) : itN s = match nres (nt s) (nb s) with
    | none => ⟨0, ⟨#[]⟩, [], 2⟩
    | some (n, g) => if g then ⟨0, ⟨#[]⟩, [], 4⟩ else ⟨0, ⟨#[]⟩, pcode n, 0⟩ := by unfold itN; rw [h]
theorem pcode_len (n : Nat) : (pcode n).length ≤ 33 := by have := pl_len n 0; unfold pcode pcs; rw [List.length_cons]; omega
/-- a word's bytes without the noughts ahead are what the program lays -/
theorem lst_by32 (n : Nat) : bl (lst (by32 n)) = pl n 0 := by
  rw [bl_lst]
  unfold pl bys by32
  show ((strOfNums _).data.toList).dropWhile _ = _
  rw [strOfNums_data, List.map_map]
  rfl
end cin
end Go.Proofs.YtohoajjdoihekaaDoor
