import Derived.Test.YtohoajjdoihekaaGreatDoorWh
import Derived.RegionTactic
set_option linter.unusedVariables false
set_option linter.unusedSimpArgs false
namespace Go.Proofs.YtohoajjdoihekaaGreatDoor
namespace cin
section
open Go.RowKit
set_option maxHeartbeats 8000000
set_option maxRecDepth 100000
theorem i7 {i : Nat} (h : i < 7) : i = 0 ∨ i = 1 ∨ i = 2 ∨ i = 3 ∨ i = 4 ∨ i = 5 ∨ i = 6 := by omega
theorem i5 {i : Nat} (h : i < 5) : i = 0 ∨ i = 1 ∨ i = 2 ∨ i = 3 ∨ i = 4 := by omega
theorem negative_v (a : Nat) (na : Bool) (h : Hid (neg a = na)) (w : World) : Calls Tryz.prog 167 #[wv a] w fun e w' => e = .returned (.bool na) ∧ Below w.heap.size w w' := by
 have := negative_any a w
 rw [h.out] at this
 exact this
def FSd (w : World) (a b ma mb qd : Nat) : Nat → Act → World → Prop
 | 0, s, _ => s.tmps.getD 6 undef = wv a
 | 1, s, _ => s.tmps.getD 7 undef = wv ma
 | 2, s, _ => s.tmps.getD 8 undef = wv b
 | 3, s, _ => s.tmps.getD 9 undef = wv mb
 | 4, s, _ => s.tmps.getD 10 undef = wv qd
 | 5, s, x => ∃ (p : Nat) (f : Nat → Int), s.tmps.getD 5 undef = .pointer (some ⟨p, 0, none⟩) ∧ x.rowIs p 24 4 (u64s f) ∧ w.heap.size + 1 + 1 < p
 | 6, s, x => ∃ p : Nat, s.tmps.getD 5 undef = .pointer (some ⟨p, 0, none⟩) ∧ x.rowIs p 24 4 (u64s (limb qd)) ∧ w.heap.size + 1 + 1 < p
 | _, _, _ => True
theorem FSd_big (w : World) (a b ma mb qd : Nat) (j : Nat) (h : 7 ≤ j) (s : Act) (x : World) : FSd w a b ma mb qd j s x := by
 match j, h with
 | j + 7, _ => trivial
def GSd (w : World) (a b : Nat) (s : Act) (x : World) : Prop := ∃ s5 s6 s7 s8 s9 s10 : Value,
 s = ⟨#[wv a, wv b, .pointer (some ⟨w.heap.size, 0, none⟩), .pointer (some ⟨w.heap.size + 1, 0, none⟩), .pointer (some ⟨w.heap.size + 1 + 1, 0, none⟩), s5, s6, s7, s8, s9, s10, undef, undef, undef, undef, undef, undef, undef, undef], []⟩ ∧ SS w a b x
def FSm (w : World) (a b ma mb qd : Nat) : Nat → Act → World → Prop
 | 0, s, _ => s.tmps.getD 6 undef = wv a
 | 1, s, _ => s.tmps.getD 7 undef = wv ma
 | 2, s, _ => s.tmps.getD 8 undef = wv b
 | 3, s, _ => s.tmps.getD 9 undef = wv mb
 | 4, s, _ => s.tmps.getD 10 undef = wv qd
 | 5, s, x => ∃ (p : Nat) (f : Nat → Int), s.tmps.getD 5 undef = .pointer (some ⟨p, 0, none⟩) ∧ x.rowIs p 24 4 (u64s f) ∧ w.heap.size + 1 + 1 < p
 | 6, s, x => ∃ p : Nat, s.tmps.getD 5 undef = .pointer (some ⟨p, 0, none⟩) ∧ x.rowIs p 24 4 (u64s (limb qd)) ∧ w.heap.size + 1 + 1 < p
 | _, _, _ => True
theorem FSm_big (w : World) (a b ma mb qd : Nat) (j : Nat) (h : 7 ≤ j) (s : Act) (x : World) : FSm w a b ma mb qd j s x := by
 match j, h with
 | j + 7, _ => trivial
def GSm (w : World) (a b : Nat) (s : Act) (x : World) : Prop := ∃ s5 s6 s7 s8 s9 s10 : Value,
 s = ⟨#[wv a, wv b, .pointer (some ⟨w.heap.size, 0, none⟩), .pointer (some ⟨w.heap.size + 1, 0, none⟩), .pointer (some ⟨w.heap.size + 1 + 1, 0, none⟩), s5, s6, s7, s8, s9, s10, undef, undef, undef, undef, undef], []⟩ ∧ SS w a b x
def FSg (a b : Nat) (na nb : Bool) : Nat → Act → World → Prop
 | 0, s, _ => s.tmps.getD 11 undef = wv a
 | 1, s, _ => s.tmps.getD 12 undef = .bool na
 | 2, s, _ => s.tmps.getD 13 undef = wv b
 | 3, s, _ => s.tmps.getD 14 undef = .bool nb
 | 4, s, _ => s.tmps.getD 15 undef = .bool (na != nb)
 | _, _, _ => True
theorem FSg_big (a b : Nat) (na nb : Bool) (j : Nat) (h : 5 ≤ j) (s : Act) (x : World) : FSg a b na nb j s x := by
 match j, h with
 | j + 5, _ => trivial
def GSg (w : World) (a b p qd : Nat) (v6 v7 v8 v9 v10 : Value) (s : Act) (x : World) : Prop := ∃ s11 s12 s13 s14 s15 : Value,
 s = ⟨#[wv a, wv b, .pointer (some ⟨w.heap.size, 0, none⟩), .pointer (some ⟨w.heap.size + 1, 0, none⟩), .pointer (some ⟨w.heap.size + 1 + 1, 0, none⟩), .pointer (some ⟨p, 0, none⟩), v6, v7, v8, v9, v10, s11, s12, s13, s14, s15, undef, undef, undef], []⟩ ∧ (SS w a b x ∧ x.rowIs p 24 4 (u64s (limb qd)))
theorem sdiv_rel {a b ma mb qd : Nat} (h1 : ma = fmag (a % M)) (h2 : mb = fmag (b % M)) (h3 : qd = fdiv (ma % M) (mb % M)) : fdiv (fmag (a % M)) (fmag (b % M)) = qd := by
 rw [h3, h1, h2, Nat.mod_eq_of_lt (fmag_lt _ (Nat.mod_lt _ Mpos)), Nat.mod_eq_of_lt (fmag_lt _ (Nat.mod_lt _ Mpos))]
theorem smod_rel {a b ma mb qd : Nat} (h1 : ma = fmag (a % M)) (h2 : mb = fmag (b % M)) (h3 : qd = fmod (ma % M) (mb % M)) : fmod (fmag (a % M)) (fmag (b % M)) = qd := by
 rw [h3, h1, h2, Nat.mod_eq_of_lt (fmag_lt _ (Nat.mod_lt _ Mpos)), Nat.mod_eq_of_lt (fmag_lt _ (Nat.mod_lt _ Mpos))]
theorem sdiv_neg {a b qd s : Nat} (h : fdiv (fmag (a % M)) (fmag (b % M)) = qd) (hn : (neg a != neg b) = true) (hs : s = fneg (qd % M)) (hq : qd < M) : s % M = fsdiv (a % M) (b % M) % M := by
 unfold fsdiv; rw [neg_mod, neg_mod, hn, if_pos rfl, h, hs, Nat.mod_eq_of_lt hq]
theorem sdiv_pos {a b qd : Nat} (h : fdiv (fmag (a % M)) (fmag (b % M)) = qd) (hn : (neg a != neg b) = false) : qd % M = fsdiv (a % M) (b % M) % M := by
 unfold fsdiv; rw [neg_mod, neg_mod, hn, if_neg (by decide), h]
theorem smod_neg {a b qd s : Nat} (h : fmod (fmag (a % M)) (fmag (b % M)) = qd) (hn : neg a = true) (hs : s = fneg (qd % M)) (hq : qd < M) : s % M = fsmod (a % M) (b % M) % M := by
 unfold fsmod; rw [neg_mod, hn, if_pos rfl, h, hs, Nat.mod_eq_of_lt hq]
theorem smod_pos {a b qd : Nat} (h : fmod (fmag (a % M)) (fmag (b % M)) = qd) (hn : neg a = false) : qd % M = fsmod (a % M) (b % M) % M := by
 unfold fsmod; rw [neg_mod, hn, if_neg (by decide), h]
theorem sdiv_any (a b : Nat) (w : World) : Calls Tryz.prog 101 #[wv a, wv b] w (Ret w (fsdiv (a % M) (b % M))) := by
 obtain ⟨ma, HMA⟩ : ∃ ma, Hid (ma = fmag (a % M)) := ⟨_, rfl⟩
 obtain ⟨mb, HMB⟩ : ∃ mb, Hid (mb = fmag (b % M)) := ⟨_, rfl⟩
 obtain ⟨qd, HQD⟩ : ∃ qd, Hid (qd = fdiv (ma % M) (mb % M)) := ⟨_, rfl⟩
 obtain ⟨na, HNA⟩ : ∃ na, Hid (neg a = na) := ⟨_, rfl⟩
 obtain ⟨nb, HNB⟩ : ∃ nb, Hid (neg b = nb) := ⟨_, rfl⟩
 have hS := SS.start w a b
 go_enter Tryz.func101, Tryz.ntmps101
 go_wp2
 refine wp_region_inv (by kernel_rfl) (GSd w a b) (FSd w a b ma mb qd) (hall_of (by kernel_rfl)) ?_ ?_ ?_
 ·exact ⟨_, _, _, _, _, _, rfl, hS.drew⟩
 ·intro i o ho s x hG hdep
  clear hS
  obtain ⟨s5, s6, s7, s8, s9, s10, rfl, hs⟩ := hG
  have hi : i < 7 := (Array.getElem?_eq_some_iff.1 ho).1
  rcases i7 hi with rfl | rfl | rfl | rfl | rfl | rfl | rfl
  ·obtain rfl := sj ho
   refine wpOp_step rfl fun K hK => ?_
   obtain ⟨y0, y1, y2, y3⟩ := row_cells4 hs.ra
   go_simp
   refine hK _ _ ⟨⟨_, _, _, _, _, _, rfl, hs⟩, rfl, fun j hj hd hF => ?_⟩
   rcases Nat.lt_or_ge j 7 with hjn | hjn
   ·rcases i7 hjn with rfl | rfl | rfl | rfl | rfl | rfl | rfl
    ·exact absurd rfl hj
    ·exfalso; revert hd; exact of_decide_eq_true (by kernel_rfl)
    ·have h : s8 = wv b := hF; exact h
    ·have h : s9 = wv mb := hF; exact h
    ·have h : s10 = wv qd := hF; exact h
    ·obtain ⟨p, f, h1, h2, h3⟩ := hF; exact ⟨p, f, h1, h2, h3⟩
    ·obtain ⟨p, h1, h2, h3⟩ := hF; exact ⟨p, h1, h2, h3⟩
   ·exact FSd_big _ _ _ _ _ _ _ hjn _ _
  ·obtain rfl := sj ho
   refine wpOp_step rfl fun K hK => ?_
   have h0 : s6 = wv a := hdep ⟨0, .data⟩ (by simp) rfl
   subst h0
   go_simp
   refine (magnitude_any a _).mono ?_
   rintro e y ⟨rr, HRR, rfl, hb⟩
   obtain rfl : rr = ma := HRR.out.trans HMA.out.symm
   dsimp only
   refine hK _ _ ⟨⟨_, _, _, _, _, _, rfl, hs.call hb⟩, rfl, fun j hj hd hF => ?_⟩
   rcases Nat.lt_or_ge j 7 with hjn | hjn
   ·rcases i7 hjn with rfl | rfl | rfl | rfl | rfl | rfl | rfl
    ·exact (rfl : (wv a : Value) = wv a)
    ·exact absurd rfl hj
    ·have h : s8 = wv b := hF; exact h
    ·have h : s9 = wv mb := hF; exact h
    ·exfalso; revert hd; exact of_decide_eq_true (by kernel_rfl)
    ·obtain ⟨p, f, h1, h2, h3⟩ := hF; exact ⟨p, f, h1, row_below h2 hb, h3⟩
    ·obtain ⟨p, h1, h2, h3⟩ := hF; exact ⟨p, h1, row_below h2 hb, h3⟩
   ·exact FSd_big _ _ _ _ _ _ _ hjn _ _
  ·obtain rfl := sj ho
   refine wpOp_step rfl fun K hK => ?_
   obtain ⟨y0, y1, y2, y3⟩ := row_cells4 hs.rb
   go_simp
   refine hK _ _ ⟨⟨_, _, _, _, _, _, rfl, hs⟩, rfl, fun j hj hd hF => ?_⟩
   rcases Nat.lt_or_ge j 7 with hjn | hjn
   ·rcases i7 hjn with rfl | rfl | rfl | rfl | rfl | rfl | rfl
    ·have h : s6 = wv a := hF; exact h
    ·have h : s7 = wv ma := hF; exact h
    ·exact absurd rfl hj
    ·exfalso; revert hd; exact of_decide_eq_true (by kernel_rfl)
    ·have h : s10 = wv qd := hF; exact h
    ·obtain ⟨p, f, h1, h2, h3⟩ := hF; exact ⟨p, f, h1, h2, h3⟩
    ·obtain ⟨p, h1, h2, h3⟩ := hF; exact ⟨p, h1, h2, h3⟩
   ·exact FSd_big _ _ _ _ _ _ _ hjn _ _
  ·obtain rfl := sj ho
   refine wpOp_step rfl fun K hK => ?_
   have h2 : s8 = wv b := hdep ⟨2, .data⟩ (by simp) rfl
   subst h2
   go_simp
   refine (magnitude_any b _).mono ?_
   rintro e y ⟨rr, HRR, rfl, hb⟩
   obtain rfl : rr = mb := HRR.out.trans HMB.out.symm
   dsimp only
   refine hK _ _ ⟨⟨_, _, _, _, _, _, rfl, hs.call hb⟩, rfl, fun j hj hd hF => ?_⟩
   rcases Nat.lt_or_ge j 7 with hjn | hjn
   ·rcases i7 hjn with rfl | rfl | rfl | rfl | rfl | rfl | rfl
    ·have h : s6 = wv a := hF; exact h
    ·have h : s7 = wv ma := hF; exact h
    ·exact (rfl : (wv b : Value) = wv b)
    ·exact absurd rfl hj
    ·exfalso; revert hd; exact of_decide_eq_true (by kernel_rfl)
    ·obtain ⟨p, f, h1, h2, h3⟩ := hF; exact ⟨p, f, h1, row_below h2 hb, h3⟩
    ·obtain ⟨p, h1, h2, h3⟩ := hF; exact ⟨p, h1, row_below h2 hb, h3⟩
   ·exact FSd_big _ _ _ _ _ _ _ hjn _ _
  ·obtain rfl := sj ho
   refine wpOp_step rfl fun K hK => ?_
   have h1 : s7 = wv ma := hdep ⟨1, .data⟩ (by simp) rfl
   subst h1
   have h3 : s9 = wv mb := hdep ⟨3, .data⟩ (by simp) rfl
   subst h3
   go_simp
   refine (div_any ma mb _).mono ?_
   rintro e y ⟨rr, HRR, rfl, hb⟩
   obtain rfl : rr = qd := HRR.out.trans HQD.out.symm
   dsimp only
   refine hK _ _ ⟨⟨_, _, _, _, _, _, rfl, hs.call hb⟩, rfl, fun j hj hd hF => ?_⟩
   rcases Nat.lt_or_ge j 7 with hjn | hjn
   ·rcases i7 hjn with rfl | rfl | rfl | rfl | rfl | rfl | rfl
    ·have h : s6 = wv a := hF; exact h
    ·exact (rfl : (wv ma : Value) = wv ma)
    ·have h : s8 = wv b := hF; exact h
    ·exact (rfl : (wv mb : Value) = wv mb)
    ·exact absurd rfl hj
    ·obtain ⟨p, f, h1, h2, h3⟩ := hF; exact ⟨p, f, h1, row_below h2 hb, h3⟩
    ·exfalso; revert hd; exact of_decide_eq_true (by kernel_rfl)
   ·exact FSd_big _ _ _ _ _ _ _ hjn _ _
  ·obtain rfl := sj ho
   refine wpOp_step rfl fun K hK => ?_
   have zz := hs.rz.lt
   go_simp
   refine hK _ _ ⟨⟨_, _, _, _, _, _, rfl, hs.alloc _⟩, ⟨_, fun _ => 0, rfl, row_lit4 _ rfl rfl rfl rfl rfl, zz⟩, fun j hj hd hF => ?_⟩
   rcases Nat.lt_or_ge j 7 with hjn | hjn
   ·rcases i7 hjn with rfl | rfl | rfl | rfl | rfl | rfl | rfl
    ·have h : s6 = wv a := hF; exact h
    ·have h : s7 = wv ma := hF; exact h
    ·have h : s8 = wv b := hF; exact h
    ·have h : s9 = wv mb := hF; exact h
    ·have h : s10 = wv qd := hF; exact h
    ·exact absurd rfl hj
    ·exfalso; revert hd; exact of_decide_eq_true (by kernel_rfl)
   ·exact FSd_big _ _ _ _ _ _ _ hjn _ _
  ·obtain rfl := sj ho
   refine wpOp_step rfl fun K hK => ?_
   have h5 : ∃ (p : Nat) (f : Nat → Int), s5 = .pointer (some ⟨p, 0, none⟩) ∧ x.rowIs p 24 4 (u64s f) ∧ w.heap.size + 1 + 1 < p := hdep ⟨5, .data⟩ (by simp) rfl
   have h4 : s10 = wv qd := hdep ⟨4, .data⟩ (by simp) rfl
   subst h4
   obtain ⟨p5, f5, rfl, hr5, hl5⟩ := h5
   obtain ⟨y0, y1, y2, y3⟩ := row_cells4 hr5
   have fz := hr5.frozen
   go_simp
   refine hK _ _ ⟨⟨_, _, _, _, _, _, rfl, ((((hs.set hl5 _).set hl5 _).set hl5 _).set hl5 _)⟩, ⟨p5, rfl, row_put4 hr5 (limb qd) rfl rfl rfl rfl, hl5⟩, fun j hj hd hF => ?_⟩
   rcases Nat.lt_or_ge j 7 with hjn | hjn
   ·rcases i7 hjn with rfl | rfl | rfl | rfl | rfl | rfl | rfl
    ·have h : s6 = wv a := hF; exact h
    ·have h : s7 = wv ma := hF; exact h
    ·have h : s8 = wv b := hF; exact h
    ·have h : s9 = wv mb := hF; exact h
    ·exact (rfl : (wv qd : Value) = wv qd)
    ·exact ⟨p5, limb qd, rfl, row_put4 hr5 (limb qd) rfl rfl rfl rfl, hl5⟩
    ·exact absurd rfl hj
   ·exact FSd_big _ _ _ _ _ _ _ hjn _ _
 ·intro s x hG hF
  clear hS
  obtain ⟨s5, s6, s7, s8, s9, s10, rfl, hs⟩ := hG
  obtain ⟨p, rfl, hr, hl⟩ : ∃ p : Nat, s5 = .pointer (some ⟨p, 0, none⟩) ∧ x.rowIs p 24 4 (u64s (limb qd)) ∧ w.heap.size + 1 + 1 < p := hF 6 (by decide)
  clear hF
  go_wp2
  refine wp_region_inv (by kernel_rfl) (GSg w a b p qd s6 s7 s8 s9 s10) (FSg a b na nb) (hall_of (by kernel_rfl)) ?_ ?_ ?_
  ·exact ⟨_, _, _, _, _, rfl, ⟨hs.drew, hr.drew⟩⟩
  ·intro i o ho s x hG hdep
   obtain ⟨s11, s12, s13, s14, s15, rfl, hs⟩ := hG
   have hi : i < 5 := (Array.getElem?_eq_some_iff.1 ho).1
   rcases i5 hi with rfl | rfl | rfl | rfl | rfl
   ·obtain rfl := sj ho
    refine wpOp_step rfl fun K hK => ?_
    obtain ⟨y0, y1, y2, y3⟩ := row_cells4 hs.1.ra
    go_simp
    refine hK _ _ ⟨⟨_, _, _, _, _, rfl, hs⟩, rfl, fun j hj hd hF => ?_⟩
    rcases Nat.lt_or_ge j 5 with hjn | hjn
    ·rcases i5 hjn with rfl | rfl | rfl | rfl | rfl
     ·exact absurd rfl hj
     ·exfalso; revert hd; exact of_decide_eq_true (by kernel_rfl)
     ·have h : s13 = wv b := hF; exact h
     ·have h : s14 = .bool nb := hF; exact h
     ·have h : s15 = .bool (na != nb) := hF; exact h
    ·exact FSg_big _ _ _ _ _ hjn _ _
   ·obtain rfl := sj ho
    refine wpOp_step rfl fun K hK => ?_
    have h0 : s11 = wv a := hdep ⟨0, .data⟩ (by simp) rfl
    subst h0
    go_simp
    refine (negative_v a na HNA _).mono ?_
    rintro e y ⟨rfl, hb⟩
    dsimp only
    refine hK _ _ ⟨⟨_, _, _, _, _, rfl, ⟨hs.1.call hb, row_below hs.2 hb⟩⟩, rfl, fun j hj hd hF => ?_⟩
    rcases Nat.lt_or_ge j 5 with hjn | hjn
    ·rcases i5 hjn with rfl | rfl | rfl | rfl | rfl
     ·exact (rfl : (wv a : Value) = wv a)
     ·exact absurd rfl hj
     ·have h : s13 = wv b := hF; exact h
     ·have h : s14 = .bool nb := hF; exact h
     ·exfalso; revert hd; exact of_decide_eq_true (by kernel_rfl)
    ·exact FSg_big _ _ _ _ _ hjn _ _
   ·obtain rfl := sj ho
    refine wpOp_step rfl fun K hK => ?_
    obtain ⟨y0, y1, y2, y3⟩ := row_cells4 hs.1.rb
    go_simp
    refine hK _ _ ⟨⟨_, _, _, _, _, rfl, hs⟩, rfl, fun j hj hd hF => ?_⟩
    rcases Nat.lt_or_ge j 5 with hjn | hjn
    ·rcases i5 hjn with rfl | rfl | rfl | rfl | rfl
     ·have h : s11 = wv a := hF; exact h
     ·have h : s12 = .bool na := hF; exact h
     ·exact absurd rfl hj
     ·exfalso; revert hd; exact of_decide_eq_true (by kernel_rfl)
     ·have h : s15 = .bool (na != nb) := hF; exact h
    ·exact FSg_big _ _ _ _ _ hjn _ _
   ·obtain rfl := sj ho
    refine wpOp_step rfl fun K hK => ?_
    have h2 : s13 = wv b := hdep ⟨2, .data⟩ (by simp) rfl
    subst h2
    go_simp
    refine (negative_v b nb HNB _).mono ?_
    rintro e y ⟨rfl, hb⟩
    dsimp only
    refine hK _ _ ⟨⟨_, _, _, _, _, rfl, ⟨hs.1.call hb, row_below hs.2 hb⟩⟩, rfl, fun j hj hd hF => ?_⟩
    rcases Nat.lt_or_ge j 5 with hjn | hjn
    ·rcases i5 hjn with rfl | rfl | rfl | rfl | rfl
     ·have h : s11 = wv a := hF; exact h
     ·have h : s12 = .bool na := hF; exact h
     ·exact (rfl : (wv b : Value) = wv b)
     ·exact absurd rfl hj
     ·exfalso; revert hd; exact of_decide_eq_true (by kernel_rfl)
    ·exact FSg_big _ _ _ _ _ hjn _ _
   ·obtain rfl := sj ho
    refine wpOp_step rfl fun K hK => ?_
    have h1 : s12 = .bool na := hdep ⟨1, .data⟩ (by simp) rfl
    subst h1
    have h3 : s14 = .bool nb := hdep ⟨3, .data⟩ (by simp) rfl
    subst h3
    go_simp
    refine hK _ _ ⟨⟨_, _, _, _, _, rfl, hs⟩, rfl, fun j hj hd hF => ?_⟩
    rcases Nat.lt_or_ge j 5 with hjn | hjn
    ·rcases i5 hjn with rfl | rfl | rfl | rfl | rfl
     ·have h : s11 = wv a := hF; exact h
     ·exact (rfl : (.bool na : Value) = .bool na)
     ·have h : s13 = wv b := hF; exact h
     ·exact (rfl : (.bool nb : Value) = .bool nb)
     ·exact absurd rfl hj
    ·exact FSg_big _ _ _ _ _ hjn _ _
  ·intro s x hG hF
   obtain ⟨s11, s12, s13, s14, s15, rfl, hs⟩ := hG
   have h4 : s15 = .bool (na != nb) := hF 4 (by decide)
   clear hF hr
   obtain ⟨hs, hr⟩ := hs
   subst h4
   cases na <;> cases nb
   ·skip
    obtain ⟨y0, y1, y2, y3⟩ := row_cells4 hr
    have hrz := hs.rz
    have hbel := hs.be
    have z' := hbel.size
    obtain ⟨x0, x1, x2, x3⟩ := row_cells4 hrz
    have fz := hrz.frozen
    go_wp2
    obtain ⟨q0, q1, q2, q3⟩ := row_cells4 (row_put4 hrz (limb qd) rfl rfl rfl rfl)
    refine bodyPost_ret (v := wv qd) (by simp [results, Tryz.results101, go_sem, q0, q1, q2, q3]) rfl (ret_mk (sdiv_pos (sdiv_rel HMA.out HMB.out HQD.out) (by rw [HNA.out, HNB.out]; rfl)) ?_)
    exact below_put4 hbel (by omega) _ _ _ _
   ·skip
    obtain ⟨y0, y1, y2, y3⟩ := row_cells4 hr
    go_wp2_with fail
    refine (negate_any qd _).mono ?_
    rintro e w2 ⟨s, HSN, rfl, hb⟩
    have hrz := row_below hs.rz hb
    have hbel := bcall hs.be hb
    have z' := hbel.size
    obtain ⟨x0, x1, x2, x3⟩ := row_cells4 hrz
    have fz := hrz.frozen
    clear hb
    go_wp2
    obtain ⟨q0, q1, q2, q3⟩ := row_cells4 (row_put4 hrz (limb s) rfl rfl rfl rfl)
    refine bodyPost_ret (v := wv s) (by simp [results, Tryz.results101, go_sem, q0, q1, q2, q3]) rfl (ret_mk (sdiv_neg (sdiv_rel HMA.out HMB.out HQD.out) (by rw [HNA.out, HNB.out]; rfl) HSN.out (by rw [HQD.out]; exact fdiv_lt _ _ (Nat.mod_lt _ Mpos))) ?_)
    exact below_put4 hbel (by omega) _ _ _ _
   ·skip
    obtain ⟨y0, y1, y2, y3⟩ := row_cells4 hr
    go_wp2_with fail
    refine (negate_any qd _).mono ?_
    rintro e w2 ⟨s, HSN, rfl, hb⟩
    have hrz := row_below hs.rz hb
    have hbel := bcall hs.be hb
    have z' := hbel.size
    obtain ⟨x0, x1, x2, x3⟩ := row_cells4 hrz
    have fz := hrz.frozen
    clear hb
    go_wp2
    obtain ⟨q0, q1, q2, q3⟩ := row_cells4 (row_put4 hrz (limb s) rfl rfl rfl rfl)
    refine bodyPost_ret (v := wv s) (by simp [results, Tryz.results101, go_sem, q0, q1, q2, q3]) rfl (ret_mk (sdiv_neg (sdiv_rel HMA.out HMB.out HQD.out) (by rw [HNA.out, HNB.out]; rfl) HSN.out (by rw [HQD.out]; exact fdiv_lt _ _ (Nat.mod_lt _ Mpos))) ?_)
    exact below_put4 hbel (by omega) _ _ _ _
   ·skip
    obtain ⟨y0, y1, y2, y3⟩ := row_cells4 hr
    have hrz := hs.rz
    have hbel := hs.be
    have z' := hbel.size
    obtain ⟨x0, x1, x2, x3⟩ := row_cells4 hrz
    have fz := hrz.frozen
    go_wp2
    obtain ⟨q0, q1, q2, q3⟩ := row_cells4 (row_put4 hrz (limb qd) rfl rfl rfl rfl)
    refine bodyPost_ret (v := wv qd) (by simp [results, Tryz.results101, go_sem, q0, q1, q2, q3]) rfl (ret_mk (sdiv_pos (sdiv_rel HMA.out HMB.out HQD.out) (by rw [HNA.out, HNB.out]; rfl)) ?_)
    exact below_put4 hbel (by omega) _ _ _ _
theorem smod_any (a b : Nat) (w : World) : Calls Tryz.prog 103 #[wv a, wv b] w (Ret w (fsmod (a % M) (b % M))) := by
 obtain ⟨ma, HMA⟩ : ∃ ma, Hid (ma = fmag (a % M)) := ⟨_, rfl⟩
 obtain ⟨mb, HMB⟩ : ∃ mb, Hid (mb = fmag (b % M)) := ⟨_, rfl⟩
 obtain ⟨qd, HQD⟩ : ∃ qd, Hid (qd = fmod (ma % M) (mb % M)) := ⟨_, rfl⟩
 obtain ⟨na, HNA⟩ : ∃ na, Hid (neg a = na) := ⟨_, rfl⟩
 have hS := SS.start w a b
 go_enter Tryz.func103, Tryz.ntmps103
 go_wp2
 refine wp_region_inv (by kernel_rfl) (GSm w a b) (FSm w a b ma mb qd) (hall_of (by kernel_rfl)) ?_ ?_ ?_
 ·exact ⟨_, _, _, _, _, _, rfl, hS.drew⟩
 ·intro i o ho s x hG hdep
  clear hS
  obtain ⟨s5, s6, s7, s8, s9, s10, rfl, hs⟩ := hG
  have hi : i < 7 := (Array.getElem?_eq_some_iff.1 ho).1
  rcases i7 hi with rfl | rfl | rfl | rfl | rfl | rfl | rfl
  ·obtain rfl := sj ho
   refine wpOp_step rfl fun K hK => ?_
   obtain ⟨y0, y1, y2, y3⟩ := row_cells4 hs.ra
   go_simp
   refine hK _ _ ⟨⟨_, _, _, _, _, _, rfl, hs⟩, rfl, fun j hj hd hF => ?_⟩
   rcases Nat.lt_or_ge j 7 with hjn | hjn
   ·rcases i7 hjn with rfl | rfl | rfl | rfl | rfl | rfl | rfl
    ·exact absurd rfl hj
    ·exfalso; revert hd; exact of_decide_eq_true (by kernel_rfl)
    ·have h : s8 = wv b := hF; exact h
    ·have h : s9 = wv mb := hF; exact h
    ·have h : s10 = wv qd := hF; exact h
    ·obtain ⟨p, f, h1, h2, h3⟩ := hF; exact ⟨p, f, h1, h2, h3⟩
    ·obtain ⟨p, h1, h2, h3⟩ := hF; exact ⟨p, h1, h2, h3⟩
   ·exact FSm_big _ _ _ _ _ _ _ hjn _ _
  ·obtain rfl := sj ho
   refine wpOp_step rfl fun K hK => ?_
   have h0 : s6 = wv a := hdep ⟨0, .data⟩ (by simp) rfl
   subst h0
   go_simp
   refine (magnitude_any a _).mono ?_
   rintro e y ⟨rr, HRR, rfl, hb⟩
   obtain rfl : rr = ma := HRR.out.trans HMA.out.symm
   dsimp only
   refine hK _ _ ⟨⟨_, _, _, _, _, _, rfl, hs.call hb⟩, rfl, fun j hj hd hF => ?_⟩
   rcases Nat.lt_or_ge j 7 with hjn | hjn
   ·rcases i7 hjn with rfl | rfl | rfl | rfl | rfl | rfl | rfl
    ·exact (rfl : (wv a : Value) = wv a)
    ·exact absurd rfl hj
    ·have h : s8 = wv b := hF; exact h
    ·have h : s9 = wv mb := hF; exact h
    ·exfalso; revert hd; exact of_decide_eq_true (by kernel_rfl)
    ·obtain ⟨p, f, h1, h2, h3⟩ := hF; exact ⟨p, f, h1, row_below h2 hb, h3⟩
    ·obtain ⟨p, h1, h2, h3⟩ := hF; exact ⟨p, h1, row_below h2 hb, h3⟩
   ·exact FSm_big _ _ _ _ _ _ _ hjn _ _
  ·obtain rfl := sj ho
   refine wpOp_step rfl fun K hK => ?_
   obtain ⟨y0, y1, y2, y3⟩ := row_cells4 hs.rb
   go_simp
   refine hK _ _ ⟨⟨_, _, _, _, _, _, rfl, hs⟩, rfl, fun j hj hd hF => ?_⟩
   rcases Nat.lt_or_ge j 7 with hjn | hjn
   ·rcases i7 hjn with rfl | rfl | rfl | rfl | rfl | rfl | rfl
    ·have h : s6 = wv a := hF; exact h
    ·have h : s7 = wv ma := hF; exact h
    ·exact absurd rfl hj
    ·exfalso; revert hd; exact of_decide_eq_true (by kernel_rfl)
    ·have h : s10 = wv qd := hF; exact h
    ·obtain ⟨p, f, h1, h2, h3⟩ := hF; exact ⟨p, f, h1, h2, h3⟩
    ·obtain ⟨p, h1, h2, h3⟩ := hF; exact ⟨p, h1, h2, h3⟩
   ·exact FSm_big _ _ _ _ _ _ _ hjn _ _
  ·obtain rfl := sj ho
   refine wpOp_step rfl fun K hK => ?_
   have h2 : s8 = wv b := hdep ⟨2, .data⟩ (by simp) rfl
   subst h2
   go_simp
   refine (magnitude_any b _).mono ?_
   rintro e y ⟨rr, HRR, rfl, hb⟩
   obtain rfl : rr = mb := HRR.out.trans HMB.out.symm
   dsimp only
   refine hK _ _ ⟨⟨_, _, _, _, _, _, rfl, hs.call hb⟩, rfl, fun j hj hd hF => ?_⟩
   rcases Nat.lt_or_ge j 7 with hjn | hjn
   ·rcases i7 hjn with rfl | rfl | rfl | rfl | rfl | rfl | rfl
    ·have h : s6 = wv a := hF; exact h
    ·have h : s7 = wv ma := hF; exact h
    ·exact (rfl : (wv b : Value) = wv b)
    ·exact absurd rfl hj
    ·exfalso; revert hd; exact of_decide_eq_true (by kernel_rfl)
    ·obtain ⟨p, f, h1, h2, h3⟩ := hF; exact ⟨p, f, h1, row_below h2 hb, h3⟩
    ·obtain ⟨p, h1, h2, h3⟩ := hF; exact ⟨p, h1, row_below h2 hb, h3⟩
   ·exact FSm_big _ _ _ _ _ _ _ hjn _ _
  ·obtain rfl := sj ho
   refine wpOp_step rfl fun K hK => ?_
   have h1 : s7 = wv ma := hdep ⟨1, .data⟩ (by simp) rfl
   subst h1
   have h3 : s9 = wv mb := hdep ⟨3, .data⟩ (by simp) rfl
   subst h3
   go_simp
   refine (mod_any ma mb _).mono ?_
   rintro e y ⟨rr, HRR, rfl, hb⟩
   obtain rfl : rr = qd := HRR.out.trans HQD.out.symm
   dsimp only
   refine hK _ _ ⟨⟨_, _, _, _, _, _, rfl, hs.call hb⟩, rfl, fun j hj hd hF => ?_⟩
   rcases Nat.lt_or_ge j 7 with hjn | hjn
   ·rcases i7 hjn with rfl | rfl | rfl | rfl | rfl | rfl | rfl
    ·have h : s6 = wv a := hF; exact h
    ·exact (rfl : (wv ma : Value) = wv ma)
    ·have h : s8 = wv b := hF; exact h
    ·exact (rfl : (wv mb : Value) = wv mb)
    ·exact absurd rfl hj
    ·obtain ⟨p, f, h1, h2, h3⟩ := hF; exact ⟨p, f, h1, row_below h2 hb, h3⟩
    ·exfalso; revert hd; exact of_decide_eq_true (by kernel_rfl)
   ·exact FSm_big _ _ _ _ _ _ _ hjn _ _
  ·obtain rfl := sj ho
   refine wpOp_step rfl fun K hK => ?_
   have zz := hs.rz.lt
   go_simp
   refine hK _ _ ⟨⟨_, _, _, _, _, _, rfl, hs.alloc _⟩, ⟨_, fun _ => 0, rfl, row_lit4 _ rfl rfl rfl rfl rfl, zz⟩, fun j hj hd hF => ?_⟩
   rcases Nat.lt_or_ge j 7 with hjn | hjn
   ·rcases i7 hjn with rfl | rfl | rfl | rfl | rfl | rfl | rfl
    ·have h : s6 = wv a := hF; exact h
    ·have h : s7 = wv ma := hF; exact h
    ·have h : s8 = wv b := hF; exact h
    ·have h : s9 = wv mb := hF; exact h
    ·have h : s10 = wv qd := hF; exact h
    ·exact absurd rfl hj
    ·exfalso; revert hd; exact of_decide_eq_true (by kernel_rfl)
   ·exact FSm_big _ _ _ _ _ _ _ hjn _ _
  ·obtain rfl := sj ho
   refine wpOp_step rfl fun K hK => ?_
   have h5 : ∃ (p : Nat) (f : Nat → Int), s5 = .pointer (some ⟨p, 0, none⟩) ∧ x.rowIs p 24 4 (u64s f) ∧ w.heap.size + 1 + 1 < p := hdep ⟨5, .data⟩ (by simp) rfl
   have h4 : s10 = wv qd := hdep ⟨4, .data⟩ (by simp) rfl
   subst h4
   obtain ⟨p5, f5, rfl, hr5, hl5⟩ := h5
   obtain ⟨y0, y1, y2, y3⟩ := row_cells4 hr5
   have fz := hr5.frozen
   go_simp
   refine hK _ _ ⟨⟨_, _, _, _, _, _, rfl, ((((hs.set hl5 _).set hl5 _).set hl5 _).set hl5 _)⟩, ⟨p5, rfl, row_put4 hr5 (limb qd) rfl rfl rfl rfl, hl5⟩, fun j hj hd hF => ?_⟩
   rcases Nat.lt_or_ge j 7 with hjn | hjn
   ·rcases i7 hjn with rfl | rfl | rfl | rfl | rfl | rfl | rfl
    ·have h : s6 = wv a := hF; exact h
    ·have h : s7 = wv ma := hF; exact h
    ·have h : s8 = wv b := hF; exact h
    ·have h : s9 = wv mb := hF; exact h
    ·exact (rfl : (wv qd : Value) = wv qd)
    ·exact ⟨p5, limb qd, rfl, row_put4 hr5 (limb qd) rfl rfl rfl rfl, hl5⟩
    ·exact absurd rfl hj
   ·exact FSm_big _ _ _ _ _ _ _ hjn _ _
 ·intro s x hG hF
  clear hS
  obtain ⟨s5, s6, s7, s8, s9, s10, rfl, hs⟩ := hG
  obtain ⟨p, rfl, hr, hl⟩ : ∃ p : Nat, s5 = .pointer (some ⟨p, 0, none⟩) ∧ x.rowIs p 24 4 (u64s (limb qd)) ∧ w.heap.size + 1 + 1 < p := hF 6 (by decide)
  clear hF
  obtain ⟨u0, u1, u2, u3⟩ := row_cells4 hs.ra
  go_wp2_with fail
  refine (negative_v a na HNA _).mono ?_
  rintro e w1 ⟨rfl, hb⟩
  replace hs := hs.call hb
  replace hr := row_below hr hb
  clear hb u0 u1 u2 u3
  cases na
  ·skip
   obtain ⟨y0, y1, y2, y3⟩ := row_cells4 hr
   have hrz := hs.rz
   have hbel := hs.be
   have z' := hbel.size
   obtain ⟨x0, x1, x2, x3⟩ := row_cells4 hrz
   have fz := hrz.frozen
   go_wp2
   obtain ⟨q0, q1, q2, q3⟩ := row_cells4 (row_put4 hrz (limb qd) rfl rfl rfl rfl)
   refine bodyPost_ret (v := wv qd) (by simp [results, Tryz.results103, go_sem, q0, q1, q2, q3]) rfl (ret_mk (smod_pos (smod_rel HMA.out HMB.out HQD.out) HNA.out) ?_)
   exact below_put4 hbel (by omega) _ _ _ _
  ·skip
   obtain ⟨y0, y1, y2, y3⟩ := row_cells4 hr
   go_wp2_with fail
   refine (negate_any qd _).mono ?_
   rintro e w2 ⟨s, HSN, rfl, hb⟩
   have hrz := row_below hs.rz hb
   have hbel := bcall hs.be hb
   have z' := hbel.size
   obtain ⟨x0, x1, x2, x3⟩ := row_cells4 hrz
   have fz := hrz.frozen
   clear hb
   go_wp2
   obtain ⟨q0, q1, q2, q3⟩ := row_cells4 (row_put4 hrz (limb s) rfl rfl rfl rfl)
   refine bodyPost_ret (v := wv s) (by simp [results, Tryz.results103, go_sem, q0, q1, q2, q3]) rfl (ret_mk (smod_neg (smod_rel HMA.out HMB.out HQD.out) HNA.out HSN.out (by rw [HQD.out]; exact fmod_lt _ _ (Nat.mod_lt _ Mpos))) ?_)
   exact below_put4 hbel (by omega) _ _ _ _
end
section
open Go.RowKit
def Pk (a b k : Nat) : Nat := a ^ (b / 2 ^ k) % M
theorem Pk_top (a b L : Nat) (h : b < 2 ^ L) : Pk a b L = 1 % M := by unfold Pk; rw [Nat.div_eq_of_lt h, Nat.pow_zero]
theorem Pk_zero (a b : Nat) : Pk a b 0 = fexp a b := by unfold Pk fexp; simp
theorem pow_mod (a n : Nat) : a ^ n % M = (a % M) ^ n % M := Nat.pow_mod a n M
theorem Pk_sq {a b i p r : Nat} (h : p % M = Pk a b (i + 1)) (h0 : bitN b i = 0) (hr : r = fmul p p) : r % M = Pk a b i := by
 unfold Pk at *
 rw [half_step b i, h0, Nat.add_zero, Nat.two_mul, Nat.pow_add, hr]
 unfold fmul
 rw [Nat.mod_mod, Nat.mul_mod, h, ← Nat.mul_mod]
theorem Pk_mul {a b i p r s : Nat} (h : p % M = Pk a b (i + 1)) (h1 : bitN b i = 1) (hr : r = fmul p p) (hs : s = fmul r a) : s % M = Pk a b i := by
 unfold Pk at *
 rw [half_step b i, h1, Nat.two_mul, Nat.pow_add, Nat.pow_add, Nat.pow_one, hs, hr]
 unfold fmul
 have e : p * p % M = a ^ (b / 2 ^ (i + 1)) * a ^ (b / 2 ^ (i + 1)) % M := by rw [Nat.mul_mod, h, ← Nat.mul_mod]
 rw [Nat.mod_mod, e, Nat.mod_mul_mod]
structure EX (w : World) (a b : Nat) (x : World) : Prop where
 ra : x.rowIs w.heap.size 24 4 (u64s (limb a))
 rb : x.rowIs (w.heap.size + 1) 24 4 (u64s (limb b))
 rz : x.rowIs (w.heap.size + 1 + 1) 24 4 (u64s fun _ => 0)
 be : Below w.heap.size w x
theorem EX.call {w : World} {a b : Nat} {x y : World} (h : EX w a b x) (hb : Below x.heap.size x y) : EX w a b y := ⟨row_below h.ra hb, row_below h.rb hb, row_below h.rz hb, bcall h.be hb⟩
theorem EX.put {w : World} {a b : Nat} {x : World} (h : EX w a b x) (v0 v1 v2 v3 : Value) : EX w a b ((((x.setCell ⟨w.heap.size + 1 + 1 + 1, 0, none⟩ v0).setCell ⟨w.heap.size + 1 + 1 + 1, 1, none⟩ v1).setCell ⟨w.heap.size + 1 + 1 + 1, 2, none⟩ v2).setCell ⟨w.heap.size + 1 + 1 + 1, 3, none⟩ v3) :=
 ⟨row_keep4 h.ra (by omega) _ _ _ _, row_keep4 h.rb (by omega) _ _ _ _, row_keep4 h.rz (by omega) _ _ _ _, below_put4 h.be (by omega) _ _ _ _⟩
theorem EX.start (w : World) (a b : Nat) {o : Obj} : EX w a b ((((w.alloc (.cells #[.int .u64 (limb a 0), .int .u64 (limb a 1), .int .u64 (limb a 2), .int .u64 (limb a 3)] 24)).alloc (.cells #[.int .u64 (limb b 0), .int .u64 (limb b 1), .int .u64 (limb b 2), .int .u64 (limb b 3)] 24)).alloc (.cells #[.int .u64 0, .int .u64 0, .int .u64 0, .int .u64 0] 24)).alloc o) :=
 ⟨row_lit4 (limb a) rfl rfl rfl rfl rfl |>.alloc _ |>.alloc _ |>.alloc _, row_lit4 (limb b) (by simp) rfl rfl rfl rfl |>.alloc _ |>.alloc _, row_lit4 (fun _ => 0) (by simp) rfl rfl rfl rfl |>.alloc _, bal (bal (bal (bal (Below.refl _ _) _) _) _) _⟩
theorem one_limbs : (1 : Int) = limb 1 0 ∧ (0 : Int) = limb 1 1 ∧ (0 : Int) = limb 1 2 ∧ (0 : Int) = limb 1 3 := by
 unfold limb; rw [pw0, pw1, pw2, pw3]; decide
set_option maxRecDepth 100000 in
set_option maxHeartbeats 4000000 in
theorem exp_lt (a b : Nat) (hb : b < 2 ^ (64 * 4)) (w : World) : Calls Tryz.prog 106 #[wv a, wv b] w (Ret w (fexp a b)) := by
 have HB : Hid (b < 2 ^ (64 * 4)) := hb
 clear hb
 go_enter Tryz.func106, Tryz.ntmps106
 go_wp2_with fail
 refine (bitLength_any b 4 (w.heap.size + 1) 24 _ (by omega) HB.out ?_).mono ?_
 ·exact row_lit4 (limb b) (by simp) rfl rfl rfl rfl |>.alloc _ |>.alloc _
 rintro e w' ⟨L, hL, hLb, rfl, rfl⟩
 have HL : Hid (b < 2 ^ L) := hLb
 clear hLb
 go_wp2
 go_loopw [6] (fun t6 wr => ∃ (k p : Nat), k ≤ 256 ∧ t6 = .int .i64 ((k : Int) - 1) ∧ EX w a b wr ∧ wr.rowIs (w.heap.size + 1 + 1 + 1) 24 4 (u64s (limb p)) ∧ Hid (p % M = Pk a b k))
   (fun t6 _ => (intOf t6 + 1).toNat)
 case atStart =>
  obtain ⟨o0, o1, o2, o3⟩ := one_limbs
  exact ⟨L, 1, by omega, by go_num, EX.start w a b, row_lit4 (limb 1) (by simp) o0 o1 o2 o3, (Pk_top a b L HL.out).symm⟩
 case round =>
  clear HL hL
  obtain ⟨k, p, hk, rfl, hx, hp, HP⟩ := hrel
  rcases Nat.eq_zero_or_pos k with rfl | hpos
  ·obtain ⟨r0, r1, r2, r3⟩ := row_cells4 hp
   obtain ⟨x0, x1, x2, x3⟩ := row_cells4 hx.rz
   have fz := hx.rz.frozen
   have hbel := hx.be
   go_wp2
   obtain ⟨q0, q1, q2, q3⟩ := row_cells4 (row_put4 hx.rz (limb p) rfl rfl rfl rfl)
   refine bodyPost_ret (v := wv p) (by simp [results, Tryz.results106, go_sem, q0, q1, q2, q3]) rfl (ret_mk (by rw [HP.out, Pk_zero, Nat.mod_eq_of_lt (fexp_lt a b)]) ?_)
   exact below_put4 hbel (by omega) _ _ _ _
  ·obtain ⟨i, rfl⟩ : ∃ i, k = i + 1 := ⟨k - 1, by omega⟩
   clear hpos
   have ek : ((i + 1 : Nat) : Int) - 1 = (i : Int) := by omega
   rw [ek]
   obtain ⟨r0, r1, r2, r3⟩ := row_cells4 hp
   go_wp2_with fail
   refine (mul_any p p _).mono ?_
   rintro e w1 ⟨r, HR, rfl, hb1⟩
   replace hx := hx.call hb1
   replace hp := row_below hp hb1
   clear hb1 r0 r1 r2 r3
   obtain ⟨r0, r1, r2, r3⟩ := row_cells4 hp
   have fp := hp.frozen
   obtain ⟨bt, HBT⟩ : ∃ bt, Hid (bt = bitN b i) := ⟨_, rfl⟩
   go_wp2_with fail
   replace hx := hx.put (.int .u64 (limb r 0)) (.int .u64 (limb r 1)) (.int .u64 (limb r 2)) (.int .u64 (limb r 3))
   replace hp := row_put4 hp (limb r) rfl rfl rfl rfl
   refine (bitAt_N b 4 i (w.heap.size + 1) 24 _ (by omega) (by omega) hx.rb).mono ?_
   rintro e w2 ⟨rfl, rfl⟩
   rw [← HBT.out]
   clear r0 r1 r2 r3 fp
   have hbt : bt ≤ 1 := by rw [HBT.out]; exact bitN_le b i
   have hbt2 : bt = 0 ∨ bt = 1 := by omega
   clear hbt
   rcases hbt2 with rfl | rfl
   ·go_wp2
    go_roundw
    case rel => exact ⟨i, r, by omega, rfl, hx, hp, Pk_sq HP.out HBT.out.symm HR.out⟩
    case measure => simp [intOf]
   ·obtain ⟨r0, r1, r2, r3⟩ := row_cells4 hp
    obtain ⟨a0, a1, a2, a3⟩ := row_cells4 hx.ra
    go_wp2_with fail
    refine (mul_any r a _).mono ?_
    rintro e w3 ⟨s, HS, rfl, hb3⟩
    replace hx := hx.call hb3
    replace hp := row_below hp hb3
    clear hb3 r0 r1 r2 r3 a0 a1 a2 a3
    obtain ⟨r0, r1, r2, r3⟩ := row_cells4 hp
    have fp := hp.frozen
    go_wp2
    go_roundw
    case rel => exact ⟨i, s, by omega, rfl, hx.put _ _ _ _, row_put4 hp (limb s) rfl rfl rfl rfl, Pk_mul HP.out HBT.out.symm HR.out HS.out⟩
    case measure => simp [intOf]
theorem fexp_mod (a b : Nat) : fexp a b = fexp (a % M) b := by unfold fexp; exact pow_mod a b
theorem exp_any (a b : Nat) (w : World) : Calls Tryz.prog 106 #[wv a, wv b] w (Ret w (fexp (a % M) (b % M))) := by
 rw [← wv_mod b, ← fexp_mod]
 exact exp_lt a (b % M) (Nat.mod_lt _ Mpos) w
end
section
open Go.RowKit
set_option maxHeartbeats 8000000
set_option maxRecDepth 100000
theorem i12 {i : Nat} (h : i < 12) : i = 0 ∨ i = 1 ∨ i = 2 ∨ i = 3 ∨ i = 4 ∨ i = 5 ∨ i = 6 ∨ i = 7 ∨ i = 8 ∨ i = 9 ∨ i = 10 ∨ i = 11 := by omega
structure S4 (w : World) (a b c : Nat) (x : World) : Prop where
 ra : x.rowIs w.heap.size 24 4 (u64s (limb a))
 rb : x.rowIs (w.heap.size + 1) 24 4 (u64s (limb b))
 rc : x.rowIs (w.heap.size + 1 + 1) 24 4 (u64s (limb c))
 rz : x.rowIs (w.heap.size + 1 + 1 + 1) 24 4 (u64s fun _ => 0)
 be : Below w.heap.size w x
theorem S4.drew {w : World} {a b c : Nat} {x : World} (h : S4 w a b c x) : S4 w a b c x.drew := ⟨h.ra, h.rb, h.rc, h.rz, h.be.drew⟩
theorem S4.alloc {w : World} {a b c : Nat} {x : World} (h : S4 w a b c x) (o : Obj) : S4 w a b c (x.alloc o) := ⟨h.ra.alloc _, h.rb.alloc _, h.rc.alloc _, h.rz.alloc _, bal h.be _⟩
theorem S4.call {w : World} {a b c : Nat} {x y : World} (h : S4 w a b c x) (hb : Below x.heap.size x y) : S4 w a b c y := ⟨row_below h.ra hb, row_below h.rb hb, row_below h.rc hb, row_below h.rz hb, bcall h.be hb⟩
theorem S4.set {w : World} {a b c : Nat} {x : World} (h : S4 w a b c x) {p : Addr} (hp : w.heap.size + 1 + 1 + 1 < p.block) (v : Value) : S4 w a b c (x.setCell p v) :=
 ⟨h.ra.setOther (by omega) _, h.rb.setOther (by omega) _, h.rc.setOther (by omega) _, h.rz.setOther (by omega) _, h.be.setCell (by omega) _⟩
theorem S4.start (w : World) (a b c : Nat) : S4 w a b c ((((w.alloc (.cells #[.int .u64 (limb a 0), .int .u64 (limb a 1), .int .u64 (limb a 2), .int .u64 (limb a 3)] 24)).alloc (.cells #[.int .u64 (limb b 0), .int .u64 (limb b 1), .int .u64 (limb b 2), .int .u64 (limb b 3)] 24)).alloc (.cells #[.int .u64 (limb c 0), .int .u64 (limb c 1), .int .u64 (limb c 2), .int .u64 (limb c 3)] 24)).alloc (.cells #[.int .u64 0, .int .u64 0, .int .u64 0, .int .u64 0] 24)) :=
 ⟨row_lit4 (limb a) rfl rfl rfl rfl rfl |>.alloc _ |>.alloc _ |>.alloc _, row_lit4 (limb b) (by simp) rfl rfl rfl rfl |>.alloc _ |>.alloc _, row_lit4 (limb c) (by simp) rfl rfl rfl rfl |>.alloc _, row_lit4 (fun _ => 0) (by simp) rfl rfl rfl rfl, bal (bal (bal (bal (Below.refl _ _) _) _) _) _⟩
theorem prod_le (x n : Nat) (hn : 512 ≤ n) (h : x < M * M) : x < 2 ^ n := by
 have e : M * M ≤ 2 ^ (n - 256) * 2 ^ 256 := Nat.mul_le_mul (M_le_pow (n - 256) (by omega)) (M_le_pow 256 (by omega))
 have e2 : 2 ^ (n - 256) * 2 ^ 256 = 2 ^ n := by rw [← Nat.pow_add]; congr 1; omega
 omega
theorem prodw_lt (a b : Nat) : prodw a b < 2 ^ (64 * 8) := by
 have h1 : a % M * (b % M) < M * M := Nat.mul_lt_mul'' (Nat.mod_lt _ Mpos) (Nat.mod_lt _ Mpos)
 have h := prod_le (prodw a b) (64 * 8) (by omega) h1
 exact h
def FMm (w : World) (a b c pr q r : Nat) : Nat → Act → World → Prop
 | 0, s, _ => s.tmps.getD 10 undef = wv a
 | 1, s, _ => s.tmps.getD 11 undef = wv b
 | 2, s, _ => s.tmps.getD 12 undef = wv8 pr
 | 3, s, _ => s.tmps.getD 13 undef = wv c
 | 4, s, _ => s.tmps.getD 14 undef = .tuple #[wv8 q, wv r]
 | 5, s, _ => s.tmps.getD 9 undef = .tuple #[wv8 q, wv r]
 | 6, s, _ => s.tmps.getD 15 undef = wv8 q
 | 7, s, _ => s.tmps.getD 16 undef = wv r
 | 8, s, x => ∃ (p : Nat) (f : Nat → Int), s.tmps.getD 7 undef = .pointer (some ⟨p, 0, none⟩) ∧ x.rowIs p 224 8 (u64s f) ∧ w.heap.size + 1 + 1 + 1 < p
 | 9, s, x => ∃ (p : Nat) (f : Nat → Int), s.tmps.getD 8 undef = .pointer (some ⟨p, 0, none⟩) ∧ x.rowIs p 24 4 (u64s f) ∧ w.heap.size + 1 + 1 + 1 < p
 | 10, s, x => ∃ (p : Nat), s.tmps.getD 7 undef = .pointer (some ⟨p, 0, none⟩) ∧ x.rowIs p 224 8 (u64s (limb q)) ∧ w.heap.size + 1 + 1 + 1 < p
 | 11, s, x => ∃ (p : Nat), s.tmps.getD 8 undef = .pointer (some ⟨p, 0, none⟩) ∧ x.rowIs p 24 4 (u64s (limb r)) ∧ w.heap.size + 1 + 1 + 1 < p
 | _, _, _ => True
theorem FMm_big (w : World) (a b c pr q r : Nat) (j : Nat) (h : 12 ≤ j) (s : Act) (x : World) : FMm w a b c pr q r j s x := by
 match j, h with
 | j + 12, _ => trivial
def GMm (w : World) (a b c : Nat) (s : Act) (x : World) : Prop := ∃ s7 s8 s9 s10 s11 s12 s13 s14 s15 s16 s17 : Value,
 s = ⟨#[wv a, wv b, wv c, .pointer (some ⟨w.heap.size, 0, none⟩), .pointer (some ⟨w.heap.size + 1, 0, none⟩), .pointer (some ⟨w.heap.size + 1 + 1, 0, none⟩), .pointer (some ⟨w.heap.size + 1 + 1 + 1, 0, none⟩), s7, s8, s9, s10, s11, s12, s13, s14, s15, s16, s17], []⟩ ∧ S4 w a b c x
theorem mulmod_any (a b c : Nat) (w : World) : Calls Tryz.prog 105 #[wv a, wv b, wv c] w (Ret w (fmulmod (a % M) (b % M) (c % M))) := by
 obtain ⟨pr, HP⟩ : ∃ pr, Hid (pr = prodw a b) := ⟨_, rfl⟩
 obtain ⟨q, HQ⟩ : ∃ q, Hid (q = pr / (c % M)) := ⟨_, rfl⟩
 obtain ⟨r, HR⟩ : ∃ r, Hid (r = fmod pr (c % M)) := ⟨_, rfl⟩
 have hS := S4.start w a b c
 go_enter Tryz.func105, Tryz.ntmps105
 go_wp2
 refine wp_region_inv (by kernel_rfl) (GMm w a b c) (FMm w a b c pr q r) (hall_of (by kernel_rfl)) ?_ ?_ ?_
 ·exact ⟨_, _, _, _, _, _, _, _, _, _, _, rfl, hS.drew⟩
 ·intro i o ho s x hG hdep
  clear hS
  obtain ⟨s7, s8, s9, s10, s11, s12, s13, s14, s15, s16, s17, rfl, hs⟩ := hG
  have hi : i < 12 := (Array.getElem?_eq_some_iff.1 ho).1
  rcases i12 hi with rfl | rfl | rfl | rfl | rfl | rfl | rfl | rfl | rfl | rfl | rfl | rfl
  ·obtain rfl := sj ho
   refine wpOp_step rfl fun K hK => ?_
   obtain ⟨y0, y1, y2, y3⟩ := row_cells4 hs.ra
   go_simp
   refine hK _ _ ⟨⟨_, _, _, _, _, _, _, _, _, _, _, rfl, hs⟩, rfl, fun j hj hd hF => ?_⟩
   rcases Nat.lt_or_ge j 12 with hjn | hjn
   ·rcases i12 hjn with rfl | rfl | rfl | rfl | rfl | rfl | rfl | rfl | rfl | rfl | rfl | rfl
    ·exact absurd rfl hj
    ·have h : s11 = wv b := hF; exact h
    ·exfalso; revert hd; exact of_decide_eq_true (by kernel_rfl)
    ·have h : s13 = wv c := hF; exact h
    ·have h : s14 = .tuple #[wv8 q, wv r] := hF; exact h
    ·have h : s9 = .tuple #[wv8 q, wv r] := hF; exact h
    ·have h : s15 = wv8 q := hF; exact h
    ·have h : s16 = wv r := hF; exact h
    ·obtain ⟨p, f, h1, h2, h3⟩ := hF; exact ⟨p, f, h1, h2, h3⟩
    ·obtain ⟨p, f, h1, h2, h3⟩ := hF; exact ⟨p, f, h1, h2, h3⟩
    ·obtain ⟨p, h1, h2, h3⟩ := hF; exact ⟨p, h1, h2, h3⟩
    ·obtain ⟨p, h1, h2, h3⟩ := hF; exact ⟨p, h1, h2, h3⟩
   ·exact FMm_big _ _ _ _ _ _ _ _ hjn _ _
  ·obtain rfl := sj ho
   refine wpOp_step rfl fun K hK => ?_
   obtain ⟨y0, y1, y2, y3⟩ := row_cells4 hs.rb
   go_simp
   refine hK _ _ ⟨⟨_, _, _, _, _, _, _, _, _, _, _, rfl, hs⟩, rfl, fun j hj hd hF => ?_⟩
   rcases Nat.lt_or_ge j 12 with hjn | hjn
   ·rcases i12 hjn with rfl | rfl | rfl | rfl | rfl | rfl | rfl | rfl | rfl | rfl | rfl | rfl
    ·have h : s10 = wv a := hF; exact h
    ·exact absurd rfl hj
    ·exfalso; revert hd; exact of_decide_eq_true (by kernel_rfl)
    ·have h : s13 = wv c := hF; exact h
    ·have h : s14 = .tuple #[wv8 q, wv r] := hF; exact h
    ·have h : s9 = .tuple #[wv8 q, wv r] := hF; exact h
    ·have h : s15 = wv8 q := hF; exact h
    ·have h : s16 = wv r := hF; exact h
    ·obtain ⟨p, f, h1, h2, h3⟩ := hF; exact ⟨p, f, h1, h2, h3⟩
    ·obtain ⟨p, f, h1, h2, h3⟩ := hF; exact ⟨p, f, h1, h2, h3⟩
    ·obtain ⟨p, h1, h2, h3⟩ := hF; exact ⟨p, h1, h2, h3⟩
    ·obtain ⟨p, h1, h2, h3⟩ := hF; exact ⟨p, h1, h2, h3⟩
   ·exact FMm_big _ _ _ _ _ _ _ _ hjn _ _
  ·obtain rfl := sj ho
   refine wpOp_step rfl fun K hK => ?_
   have h0 : s10 = wv a := hdep ⟨0, .data⟩ (by simp) rfl
   subst h0
   have h1 : s11 = wv b := hdep ⟨1, .data⟩ (by simp) rfl
   subst h1
   go_simp
   refine (product_ex a b _).mono ?_
   rintro e y ⟨rr, HRR, rfl, hb⟩
   obtain rfl : rr = pr := HRR.out.trans HP.out.symm
   dsimp only
   refine hK _ _ ⟨⟨_, _, _, _, _, _, _, _, _, _, _, rfl, hs.call hb⟩, rfl, fun j hj hd hF => ?_⟩
   rcases Nat.lt_or_ge j 12 with hjn | hjn
   ·rcases i12 hjn with rfl | rfl | rfl | rfl | rfl | rfl | rfl | rfl | rfl | rfl | rfl | rfl
    ·exact (rfl : (wv a : Value) = wv a)
    ·exact (rfl : (wv b : Value) = wv b)
    ·exact absurd rfl hj
    ·have h : s13 = wv c := hF; exact h
    ·exfalso; revert hd; exact of_decide_eq_true (by kernel_rfl)
    ·have h : s9 = .tuple #[wv8 q, wv r] := hF; exact h
    ·have h : s15 = wv8 q := hF; exact h
    ·have h : s16 = wv r := hF; exact h
    ·obtain ⟨p, f, h1, h2, h3⟩ := hF; exact ⟨p, f, h1, row_below h2 hb, h3⟩
    ·obtain ⟨p, f, h1, h2, h3⟩ := hF; exact ⟨p, f, h1, row_below h2 hb, h3⟩
    ·obtain ⟨p, h1, h2, h3⟩ := hF; exact ⟨p, h1, row_below h2 hb, h3⟩
    ·obtain ⟨p, h1, h2, h3⟩ := hF; exact ⟨p, h1, row_below h2 hb, h3⟩
   ·exact FMm_big _ _ _ _ _ _ _ _ hjn _ _
  ·obtain rfl := sj ho
   refine wpOp_step rfl fun K hK => ?_
   obtain ⟨y0, y1, y2, y3⟩ := row_cells4 hs.rc
   go_simp
   refine hK _ _ ⟨⟨_, _, _, _, _, _, _, _, _, _, _, rfl, hs⟩, rfl, fun j hj hd hF => ?_⟩
   rcases Nat.lt_or_ge j 12 with hjn | hjn
   ·rcases i12 hjn with rfl | rfl | rfl | rfl | rfl | rfl | rfl | rfl | rfl | rfl | rfl | rfl
    ·have h : s10 = wv a := hF; exact h
    ·have h : s11 = wv b := hF; exact h
    ·have h : s12 = wv8 pr := hF; exact h
    ·exact absurd rfl hj
    ·exfalso; revert hd; exact of_decide_eq_true (by kernel_rfl)
    ·have h : s9 = .tuple #[wv8 q, wv r] := hF; exact h
    ·have h : s15 = wv8 q := hF; exact h
    ·have h : s16 = wv r := hF; exact h
    ·obtain ⟨p, f, h1, h2, h3⟩ := hF; exact ⟨p, f, h1, h2, h3⟩
    ·obtain ⟨p, f, h1, h2, h3⟩ := hF; exact ⟨p, f, h1, h2, h3⟩
    ·obtain ⟨p, h1, h2, h3⟩ := hF; exact ⟨p, h1, h2, h3⟩
    ·obtain ⟨p, h1, h2, h3⟩ := hF; exact ⟨p, h1, h2, h3⟩
   ·exact FMm_big _ _ _ _ _ _ _ _ hjn _ _
  ·obtain rfl := sj ho
   refine wpOp_step rfl fun K hK => ?_
   have h2 : s12 = wv8 pr := hdep ⟨2, .data⟩ (by simp) rfl
   subst h2
   have h3 : s13 = wv c := hdep ⟨3, .data⟩ (by simp) rfl
   subst h3
   go_simp
   refine (divide_ex pr c (by rw [HP.out]; exact prodw_lt a b) _).mono ?_
   rintro e y ⟨qq, rr, HQQ, HRR, rfl, hb⟩
   obtain rfl : q = qq := HQ.out.trans HQQ.out.symm
   obtain rfl : r = rr := HR.out.trans HRR.out.symm
   dsimp only
   refine hK _ _ ⟨⟨_, _, _, _, _, _, _, _, _, _, _, rfl, hs.call hb⟩, rfl, fun j hj hd hF => ?_⟩
   rcases Nat.lt_or_ge j 12 with hjn | hjn
   ·rcases i12 hjn with rfl | rfl | rfl | rfl | rfl | rfl | rfl | rfl | rfl | rfl | rfl | rfl
    ·have h : s10 = wv a := hF; exact h
    ·have h : s11 = wv b := hF; exact h
    ·exact (rfl : (wv8 pr : Value) = wv8 pr)
    ·exact (rfl : (wv c : Value) = wv c)
    ·exact absurd rfl hj
    ·exfalso; revert hd; exact of_decide_eq_true (by kernel_rfl)
    ·have h : s15 = wv8 q := hF; exact h
    ·have h : s16 = wv r := hF; exact h
    ·obtain ⟨p, f, h1, h2, h3⟩ := hF; exact ⟨p, f, h1, row_below h2 hb, h3⟩
    ·obtain ⟨p, f, h1, h2, h3⟩ := hF; exact ⟨p, f, h1, row_below h2 hb, h3⟩
    ·obtain ⟨p, h1, h2, h3⟩ := hF; exact ⟨p, h1, row_below h2 hb, h3⟩
    ·obtain ⟨p, h1, h2, h3⟩ := hF; exact ⟨p, h1, row_below h2 hb, h3⟩
   ·exact FMm_big _ _ _ _ _ _ _ _ hjn _ _
  ·obtain rfl := sj ho
   refine wpOp_step rfl fun K hK => ?_
   have h4 : s14 = .tuple #[wv8 q, wv r] := hdep ⟨4, .data⟩ (by simp) rfl
   subst h4
   go_simp
   refine hK _ _ ⟨⟨_, _, _, _, _, _, _, _, _, _, _, rfl, hs⟩, rfl, fun j hj hd hF => ?_⟩
   rcases Nat.lt_or_ge j 12 with hjn | hjn
   ·rcases i12 hjn with rfl | rfl | rfl | rfl | rfl | rfl | rfl | rfl | rfl | rfl | rfl | rfl
    ·have h : s10 = wv a := hF; exact h
    ·have h : s11 = wv b := hF; exact h
    ·have h : s12 = wv8 pr := hF; exact h
    ·have h : s13 = wv c := hF; exact h
    ·exact (rfl : (.tuple #[wv8 q, wv r] : Value) = .tuple #[wv8 q, wv r])
    ·exact absurd rfl hj
    ·exfalso; revert hd; exact of_decide_eq_true (by kernel_rfl)
    ·exfalso; revert hd; exact of_decide_eq_true (by kernel_rfl)
    ·obtain ⟨p, f, h1, h2, h3⟩ := hF; exact ⟨p, f, h1, h2, h3⟩
    ·obtain ⟨p, f, h1, h2, h3⟩ := hF; exact ⟨p, f, h1, h2, h3⟩
    ·obtain ⟨p, h1, h2, h3⟩ := hF; exact ⟨p, h1, h2, h3⟩
    ·obtain ⟨p, h1, h2, h3⟩ := hF; exact ⟨p, h1, h2, h3⟩
   ·exact FMm_big _ _ _ _ _ _ _ _ hjn _ _
  ·obtain rfl := sj ho
   refine wpOp_step rfl fun K hK => ?_
   have h5 : s9 = .tuple #[wv8 q, wv r] := hdep ⟨5, .data⟩ (by simp) rfl
   subst h5
   go_simp
   refine hK _ _ ⟨⟨_, _, _, _, _, _, _, _, _, _, _, rfl, hs⟩, rfl, fun j hj hd hF => ?_⟩
   rcases Nat.lt_or_ge j 12 with hjn | hjn
   ·rcases i12 hjn with rfl | rfl | rfl | rfl | rfl | rfl | rfl | rfl | rfl | rfl | rfl | rfl
    ·have h : s10 = wv a := hF; exact h
    ·have h : s11 = wv b := hF; exact h
    ·have h : s12 = wv8 pr := hF; exact h
    ·have h : s13 = wv c := hF; exact h
    ·have h : s14 = .tuple #[wv8 q, wv r] := hF; exact h
    ·exact (rfl : (.tuple #[wv8 q, wv r] : Value) = .tuple #[wv8 q, wv r])
    ·exact absurd rfl hj
    ·have h : s16 = wv r := hF; exact h
    ·obtain ⟨p, f, h1, h2, h3⟩ := hF; exact ⟨p, f, h1, h2, h3⟩
    ·obtain ⟨p, f, h1, h2, h3⟩ := hF; exact ⟨p, f, h1, h2, h3⟩
    ·exfalso; revert hd; exact of_decide_eq_true (by kernel_rfl)
    ·obtain ⟨p, h1, h2, h3⟩ := hF; exact ⟨p, h1, h2, h3⟩
   ·exact FMm_big _ _ _ _ _ _ _ _ hjn _ _
  ·obtain rfl := sj ho
   refine wpOp_step rfl fun K hK => ?_
   have h5 : s9 = .tuple #[wv8 q, wv r] := hdep ⟨5, .data⟩ (by simp) rfl
   subst h5
   go_simp
   refine hK _ _ ⟨⟨_, _, _, _, _, _, _, _, _, _, _, rfl, hs⟩, rfl, fun j hj hd hF => ?_⟩
   rcases Nat.lt_or_ge j 12 with hjn | hjn
   ·rcases i12 hjn with rfl | rfl | rfl | rfl | rfl | rfl | rfl | rfl | rfl | rfl | rfl | rfl
    ·have h : s10 = wv a := hF; exact h
    ·have h : s11 = wv b := hF; exact h
    ·have h : s12 = wv8 pr := hF; exact h
    ·have h : s13 = wv c := hF; exact h
    ·have h : s14 = .tuple #[wv8 q, wv r] := hF; exact h
    ·exact (rfl : (.tuple #[wv8 q, wv r] : Value) = .tuple #[wv8 q, wv r])
    ·have h : s15 = wv8 q := hF; exact h
    ·exact absurd rfl hj
    ·obtain ⟨p, f, h1, h2, h3⟩ := hF; exact ⟨p, f, h1, h2, h3⟩
    ·obtain ⟨p, f, h1, h2, h3⟩ := hF; exact ⟨p, f, h1, h2, h3⟩
    ·obtain ⟨p, h1, h2, h3⟩ := hF; exact ⟨p, h1, h2, h3⟩
    ·exfalso; revert hd; exact of_decide_eq_true (by kernel_rfl)
   ·exact FMm_big _ _ _ _ _ _ _ _ hjn _ _
  ·obtain rfl := sj ho
   refine wpOp_step rfl fun K hK => ?_
   have zz := hs.rz.lt
   go_simp
   refine hK _ _ ⟨⟨_, _, _, _, _, _, _, _, _, _, _, rfl, hs.alloc _⟩, ⟨_, fun _ => 0, rfl, row_lit8 _ rfl rfl rfl rfl rfl rfl rfl rfl rfl, zz⟩, fun j hj hd hF => ?_⟩
   rcases Nat.lt_or_ge j 12 with hjn | hjn
   ·rcases i12 hjn with rfl | rfl | rfl | rfl | rfl | rfl | rfl | rfl | rfl | rfl | rfl | rfl
    ·have h : s10 = wv a := hF; exact h
    ·have h : s11 = wv b := hF; exact h
    ·have h : s12 = wv8 pr := hF; exact h
    ·have h : s13 = wv c := hF; exact h
    ·have h : s14 = .tuple #[wv8 q, wv r] := hF; exact h
    ·have h : s9 = .tuple #[wv8 q, wv r] := hF; exact h
    ·have h : s15 = wv8 q := hF; exact h
    ·have h : s16 = wv r := hF; exact h
    ·exact absurd rfl hj
    ·obtain ⟨p, f, h1, h2, h3⟩ := hF; exact ⟨p, f, h1, h2.alloc _, h3⟩
    ·exfalso; revert hd; exact of_decide_eq_true (by kernel_rfl)
    ·obtain ⟨p, h1, h2, h3⟩ := hF; exact ⟨p, h1, h2.alloc _, h3⟩
   ·exact FMm_big _ _ _ _ _ _ _ _ hjn _ _
  ·obtain rfl := sj ho
   refine wpOp_step rfl fun K hK => ?_
   have zz := hs.rz.lt
   go_simp
   refine hK _ _ ⟨⟨_, _, _, _, _, _, _, _, _, _, _, rfl, hs.alloc _⟩, ⟨_, fun _ => 0, rfl, row_lit4 _ rfl rfl rfl rfl rfl, zz⟩, fun j hj hd hF => ?_⟩
   rcases Nat.lt_or_ge j 12 with hjn | hjn
   ·rcases i12 hjn with rfl | rfl | rfl | rfl | rfl | rfl | rfl | rfl | rfl | rfl | rfl | rfl
    ·have h : s10 = wv a := hF; exact h
    ·have h : s11 = wv b := hF; exact h
    ·have h : s12 = wv8 pr := hF; exact h
    ·have h : s13 = wv c := hF; exact h
    ·have h : s14 = .tuple #[wv8 q, wv r] := hF; exact h
    ·have h : s9 = .tuple #[wv8 q, wv r] := hF; exact h
    ·have h : s15 = wv8 q := hF; exact h
    ·have h : s16 = wv r := hF; exact h
    ·obtain ⟨p, f, h1, h2, h3⟩ := hF; exact ⟨p, f, h1, h2.alloc _, h3⟩
    ·exact absurd rfl hj
    ·obtain ⟨p, h1, h2, h3⟩ := hF; exact ⟨p, h1, h2.alloc _, h3⟩
    ·exfalso; revert hd; exact of_decide_eq_true (by kernel_rfl)
   ·exact FMm_big _ _ _ _ _ _ _ _ hjn _ _
  ·obtain rfl := sj ho
   refine wpOp_step rfl fun K hK => ?_
   have h8 : ∃ (p : Nat) (f : Nat → Int), s7 = .pointer (some ⟨p, 0, none⟩) ∧ x.rowIs p 224 8 (u64s f) ∧ w.heap.size + 1 + 1 + 1 < p := hdep ⟨8, .data⟩ (by simp) rfl
   have h6 : s15 = wv8 q := hdep ⟨6, .data⟩ (by simp) rfl
   subst h6
   obtain ⟨p7, f7, rfl, hr7, hl7⟩ := h8
   obtain ⟨y0, y1, y2, y3, y4, y5, y6, y7⟩ := row_cells8 hr7
   have fz := hr7.frozen
   go_simp
   refine hK _ _ ⟨⟨_, _, _, _, _, _, _, _, _, _, _, rfl, ((((((((hs.set hl7 _).set hl7 _).set hl7 _).set hl7 _).set hl7 _).set hl7 _).set hl7 _).set hl7 _)⟩, ⟨p7, rfl, row_put8 hr7 (limb q), hl7⟩, fun j hj hd hF => ?_⟩
   rcases Nat.lt_or_ge j 12 with hjn | hjn
   ·rcases i12 hjn with rfl | rfl | rfl | rfl | rfl | rfl | rfl | rfl | rfl | rfl | rfl | rfl
    ·have h : s10 = wv a := hF; exact h
    ·have h : s11 = wv b := hF; exact h
    ·have h : s12 = wv8 pr := hF; exact h
    ·have h : s13 = wv c := hF; exact h
    ·have h : s14 = .tuple #[wv8 q, wv r] := hF; exact h
    ·have h : s9 = .tuple #[wv8 q, wv r] := hF; exact h
    ·exact (rfl : (wv8 q : Value) = wv8 q)
    ·have h : s16 = wv r := hF; exact h
    ·exact ⟨p7, limb q, rfl, row_put8 hr7 (limb q), hl7⟩
    ·obtain ⟨p, f, h1, h2, h3⟩ := hF; exact ⟨p, f, h1, row_keep8 h2 (row_ne h2 hr7 (by decide)) _ _ _ _ _ _ _ _, h3⟩
    ·exact absurd rfl hj
    ·obtain ⟨p, h1, h2, h3⟩ := hF; exact ⟨p, h1, row_keep8 h2 (row_ne h2 hr7 (by decide)) _ _ _ _ _ _ _ _, h3⟩
   ·exact FMm_big _ _ _ _ _ _ _ _ hjn _ _
  ·obtain rfl := sj ho
   refine wpOp_step rfl fun K hK => ?_
   have h9 : ∃ (p : Nat) (f : Nat → Int), s8 = .pointer (some ⟨p, 0, none⟩) ∧ x.rowIs p 24 4 (u64s f) ∧ w.heap.size + 1 + 1 + 1 < p := hdep ⟨9, .data⟩ (by simp) rfl
   have h7 : s16 = wv r := hdep ⟨7, .data⟩ (by simp) rfl
   subst h7
   obtain ⟨p8, f8, rfl, hr8, hl8⟩ := h9
   obtain ⟨y0, y1, y2, y3⟩ := row_cells4 hr8
   have fz := hr8.frozen
   go_simp
   refine hK _ _ ⟨⟨_, _, _, _, _, _, _, _, _, _, _, rfl, ((((hs.set hl8 _).set hl8 _).set hl8 _).set hl8 _)⟩, ⟨p8, rfl, row_put4 hr8 (limb r) rfl rfl rfl rfl, hl8⟩, fun j hj hd hF => ?_⟩
   rcases Nat.lt_or_ge j 12 with hjn | hjn
   ·rcases i12 hjn with rfl | rfl | rfl | rfl | rfl | rfl | rfl | rfl | rfl | rfl | rfl | rfl
    ·have h : s10 = wv a := hF; exact h
    ·have h : s11 = wv b := hF; exact h
    ·have h : s12 = wv8 pr := hF; exact h
    ·have h : s13 = wv c := hF; exact h
    ·have h : s14 = .tuple #[wv8 q, wv r] := hF; exact h
    ·have h : s9 = .tuple #[wv8 q, wv r] := hF; exact h
    ·have h : s15 = wv8 q := hF; exact h
    ·exact (rfl : (wv r : Value) = wv r)
    ·obtain ⟨p, f, h1, h2, h3⟩ := hF; exact ⟨p, f, h1, row_keep4 h2 (row_ne h2 hr8 (by decide)) _ _ _ _, h3⟩
    ·exact ⟨p8, limb r, rfl, row_put4 hr8 (limb r) rfl rfl rfl rfl, hl8⟩
    ·obtain ⟨p, h1, h2, h3⟩ := hF; exact ⟨p, h1, row_keep4 h2 (row_ne h2 hr8 (by decide)) _ _ _ _, h3⟩
    ·exact absurd rfl hj
   ·exact FMm_big _ _ _ _ _ _ _ _ hjn _ _
 ·intro s x hG hF
  clear hS
  obtain ⟨s7, s8, s9, s10, s11, s12, s13, s14, s15, s16, s17, rfl, hs⟩ := hG
  obtain ⟨p, rfl, hr, hl⟩ : ∃ (p : Nat), s8 = .pointer (some ⟨p, 0, none⟩) ∧ x.rowIs p 24 4 (u64s (limb r)) ∧ w.heap.size + 1 + 1 + 1 < p := hF 11 (by decide)
  clear hF
  obtain ⟨y0, y1, y2, y3⟩ := row_cells4 hr
  have hrz := hs.rz
  have hbel := hs.be
  have z' := hbel.size
  obtain ⟨x0, x1, x2, x3⟩ := row_cells4 hrz
  have fz := hrz.frozen
  go_wp2
  obtain ⟨q0, q1, q2, q3⟩ := row_cells4 (row_put4 hrz (limb r) rfl rfl rfl rfl)
  refine bodyPost_ret (v := wv r) (by simp [results, Tryz.results105, go_sem, q0, q1, q2, q3]) rfl (ret_mk (by rw [HR.out, HP.out]; rfl) ?_)
  exact below_put4 hbel (by omega) _ _ _ _
theorem sum_le (x n : Nat) (hn : 257 ≤ n) (h : x < 2 * M) : x < 2 ^ n := by
 have e : 2 * 2 ^ (n - 1) = 2 ^ n := by rw [Nat.mul_comm, ← Nat.pow_succ]; congr 1; omega
 have := M_le_pow (n - 1) (by omega)
 omega
theorem sum_lt (a b : Nat) : a % M + b % M < 2 ^ (64 * 8) := by
 have h1 := Nat.mod_lt a Mpos
 have h2 := Nat.mod_lt b Mpos
 have h := sum_le (a % M + b % M) (64 * 8) (by omega) (by omega)
 exact h
theorem limb_top (n j : Nat) (h : n < 2 * M) (hj : 5 ≤ j) : limb n j = 0 := by
 rw [limb_eq]
 unfold limbN
 rw [Nat.div_eq_of_lt (sum_le n (64 * j) (by omega) h)]
 rfl
theorem sum_wide (a b s k : Nat) (hs : s = a + b) (hk : k = cy a b 4) : limb s 0 = limb (a % M + b % M) 0 ∧ limb s 1 = limb (a % M + b % M) 1 ∧ limb s 2 = limb (a % M + b % M) 2 ∧ limb s 3 = limb (a % M + b % M) 3 ∧ (k : Int) = limb (a % M + b % M) 4 ∧ (0 : Int) = limb (a % M + b % M) 5 ∧ (0 : Int) = limb (a % M + b % M) 6 ∧ (0 : Int) = limb (a % M + b % M) 7 := by
 have h1 := Nat.mod_lt a Mpos
 have h2 := Nat.mod_lt b Mpos
 subst hs hk
 refine ⟨?_, ?_, ?_, ?_, ?_, (limb_top _ 5 (by omega) (by omega)).symm, (limb_top _ 6 (by omega) (by omega)).symm, (limb_top _ 7 (by omega) (by omega)).symm⟩
 ·unfold limb M; rw [pw0]; omega
 ·unfold limb M; rw [pw1]; omega
 ·unfold limb M; rw [pw2]; omega
 ·unfold limb M; rw [pw3]; omega
 ·unfold limb cy M at *; rw [pw4]; omega
theorem addmod_any (a b c : Nat) (w : World) : Calls Tryz.prog 104 #[wv a, wv b, wv c] w (Ret w (faddmod (a % M) (b % M) (c % M))) := by
 have hs := S4.start w a b c
 go_enter Tryz.func104, Tryz.ntmps104
 go_wp2_with fail
 refine (carryAdd_ex a b _).mono ?_
 rintro e w1 ⟨s, k, HS, HK, rfl, hb⟩
 replace hs := hs.call hb
 clear hb
 go_wp2_with fail
 refine (widen_any (limb s 0) (limb s 1) (limb s 2) (limb s 3) _).mono ?_
 rintro e w2 ⟨rfl, hb⟩
 replace hs := (hs.alloc _).call hb
 clear hb
 obtain ⟨n, HN⟩ : ∃ n, Hid (n = a % M + b % M) := ⟨_, rfl⟩
 obtain ⟨g0, g1, g2, g3, g4, g5, g6, g7⟩ : limb s 0 = limb n 0 ∧ limb s 1 = limb n 1 ∧ limb s 2 = limb n 2 ∧ limb s 3 = limb n 3 ∧ (k : Int) = limb n 4 ∧ (0 : Int) = limb n 5 ∧ (0 : Int) = limb n 6 ∧ (0 : Int) = limb n 7 := by
  rw [HN.out]; exact sum_wide a b s k HS.out HK.out
 have G0 : Hid (limb s 0 = limb n 0) := g0
 have G1 : Hid (limb s 1 = limb n 1) := g1
 have G2 : Hid (limb s 2 = limb n 2) := g2
 have G3 : Hid (limb s 3 = limb n 3) := g3
 have G4 : Hid ((k : Int) = limb n 4) := g4
 have G5 : Hid ((0 : Int) = limb n 5) := g5
 have G6 : Hid ((0 : Int) = limb n 6) := g6
 have G7 : Hid ((0 : Int) = limb n 7) := g7
 clear g0 g1 g2 g3 g4 g5 g6 g7
 obtain ⟨c0, c1, c2, c3⟩ := row_cells4 hs.rc
 have zc := hs.rc.lt
 go_wp2_with fail
 have hw : Value.agg #[.int .u64 (limb s 0), .int .u64 (limb s 1), .int .u64 (limb s 2), .int .u64 (limb s 3), .int .u64 (k : Int), .int .u64 0, .int .u64 0, .int .u64 0] = wv8 n := by
  unfold wv8; rw [G0.out, G1.out, G2.out, G3.out, G4.out, ← G5.out, ← G6.out, ← G7.out]
 rw [hw]
 refine (divide_ex n c (by rw [HN.out]; exact sum_lt a b) _).mono ?_
 rintro e w3 ⟨q, r, HQ, HR, rfl, hb⟩
 replace hs := (hs.alloc _).call hb
 clear hb hw c0 c1 c2 c3 zc
 have hrz := hs.rz
 have hbel := hs.be
 have z := hrz.lt
 have z2 : w.heap.size + 1 + 1 + 1 < w3.heap.size + 1 := Nat.lt_succ_of_lt z
 have z' := hbel.size
 obtain ⟨x0, x1, x2, x3⟩ := row_cells4 hrz
 have fz := hrz.frozen
 go_wp2
 obtain ⟨q0, q1, q2, q3⟩ := row_cells4 (row_put4 hrz (limb r) rfl rfl rfl rfl)
 refine bodyPost_ret (v := wv r) (by simp [results, Tryz.results104, go_sem, q0, q1, q2, q3, z, z2]) rfl (ret_mk (by rw [HR.out, HN.out]; rfl) ?_)
 exact bal (bal (below_put4 hbel (by omega) _ _ _ _) _) _
end
section
open Go.RowKit
set_option maxHeartbeats 8000000
set_option maxRecDepth 100000
def fcalc (op a b c : Nat) : Nat :=
 if op = 1 then fadd a b else if op = 2 then fmul a b else if op = 3 then fsub a b else if op = 4 then fdiv a b else if op = 5 then fsdiv a b else if op = 6 then fmod a b else if op = 7 then fsmod a b
 else if op = 8 then faddmod a b c else if op = 9 then fmulmod a b c else if op = 10 then fexp a b else if op = 11 then fsext a b
 else if op = 16 then ftruth (decide (a < b)) else if op = 17 then ftruth (decide (b < a)) else if op = 18 then ftruth (fslt a b) else if op = 19 then ftruth (fslt b a) else if op = 20 then ftruth (decide (a = b)) else if op = 21 then ftruth (decide (a = 0))
 else if op = 22 then a &&& b else if op = 23 then a ||| b else if op = 24 then a ^^^ b else if op = 25 then fnot a else if op = 26 then fbyte a b else if op = 27 then fshl a b else if op = 28 then fshr a b else if op = 29 then fsar a b else 0
def ferr (op : Nat) : Int := if 1 ≤ op ∧ op ≤ 11 ∨ 16 ≤ op ∧ op ≤ 29 then 0 else 1
def Ret2 (w : World) (n : Nat) (k : Int) (e : Ending) (w' : World) : Prop := ∃ r : Nat, Hid (r = n) ∧ e = .returned (.tuple #[wv r, .int .i64 k]) ∧ Below w.heap.size w w'
theorem ret2_mk {w w' : World} {n r : Nat} {k : Int} (h : r % M = n % M) (hb : Below w.heap.size w w') : Ret2 w n k (.returned (.tuple #[wv r, .int .i64 k])) w' :=
 ⟨n, rfl, congrArg Ending.returned (by rw [wv_congr h]), hb⟩
theorem and_mod (a b : Nat) : (a &&& b) % M = (a % M &&& b % M) % M := by
 rw [M_pow]; apply Nat.eq_of_testBit_eq; intro i; simp only [Nat.testBit_mod_two_pow, Nat.testBit_and]; cases decide (i < 256) <;> simp
theorem or_mod (a b : Nat) : (a ||| b) % M = (a % M ||| b % M) % M := by
 rw [M_pow]; apply Nat.eq_of_testBit_eq; intro i; simp only [Nat.testBit_mod_two_pow, Nat.testBit_or]; cases decide (i < 256) <;> simp
theorem xor_mod (a b : Nat) : (a ^^^ b) % M = (a % M ^^^ b % M) % M := by
 rw [M_pow]; apply Nat.eq_of_testBit_eq; intro i; simp only [Nat.testBit_mod_two_pow, Nat.testBit_xor]; cases decide (i < 256) <;> simp
theorem add_red (a b : Nat) : fadd a b = fadd (a % M) (b % M) := by unfold fadd; rw [Nat.add_mod]
theorem mul_red (a b : Nat) : fmul a b = fmul (a % M) (b % M) := by unfold fmul; rw [Nat.mul_mod]
theorem sub_red (a b : Nat) : fsub a b = fsub (a % M) b := by unfold fsub; rw [Nat.add_mod a (M - b) M, Nat.add_mod (a % M) (M - b) M, Nat.mod_mod]
theorem shl_red (a b : Nat) : fshl a b = fshl a (b % M) := by
 unfold fshl
 split
 ·rw [Nat.mul_mod b (2 ^ a) M, Nat.mul_mod (b % M) (2 ^ a) M, Nat.mod_mod]
 ·rfl
theorem and_w (a b : Nat) (w : World) : Calls Tryz.prog 111 #[wv a, wv b] w (Ret w (a % M &&& b % M)) := by
 refine (and_any a b w).mono ?_; rintro e w' ⟨rfl, hb⟩; exact ret_mk (and_mod a b) hb
theorem or_w (a b : Nat) (w : World) : Calls Tryz.prog 112 #[wv a, wv b] w (Ret w (a % M ||| b % M)) := by
 refine (or_any a b w).mono ?_; rintro e w' ⟨rfl, hb⟩; exact ret_mk (or_mod a b) hb
theorem xor_w (a b : Nat) (w : World) : Calls Tryz.prog 113 #[wv a, wv b] w (Ret w (a % M ^^^ b % M)) := by
 refine (xor_any a b w).mono ?_; rintro e w' ⟨rfl, hb⟩; exact ret_mk (xor_mod a b) hb
theorem ar1 (a b c : Nat) (w : World) : Calls Tryz.prog 62 #[.int .u8 1, wv a, wv b, wv c] w (Ret2 w (fadd (a % M) (b % M)) 0) := by
 have hs := S4.start w a b c
 go_enter Tryz.func62, Tryz.ntmps62
 go_wp2_with fail
 refine (add_any a b _).mono ?_
 rintro e w1 ⟨s, HS, rfl, hb⟩
 replace hs := hs.call hb
 clear hb
 have hrz := hs.rz
 have hbel := hs.be
 obtain ⟨x0, x1, x2, x3⟩ := row_cells4 hrz
 have fz := hrz.frozen
 go_wp2
 obtain ⟨q0, q1, q2, q3⟩ := row_cells4 (row_put4 hrz (limb s) rfl rfl rfl rfl)
 refine bodyPost_ret (v := .tuple #[wv s, .int .i64 0]) (by simp [results, Tryz.results62, go_sem, q0, q1, q2, q3]) rfl (ret2_mk (by rw [HS.out, add_red]) ?_)
 exact below_put4 hbel (by omega) _ _ _ _
theorem ar2 (a b c : Nat) (w : World) : Calls Tryz.prog 62 #[.int .u8 2, wv a, wv b, wv c] w (Ret2 w (fmul (a % M) (b % M)) 0) := by
 have hs := S4.start w a b c
 go_enter Tryz.func62, Tryz.ntmps62
 go_wp2_with fail
 refine (mul_any a b _).mono ?_
 rintro e w1 ⟨s, HS, rfl, hb⟩
 replace hs := hs.call hb
 clear hb
 have hrz := hs.rz
 have hbel := hs.be
 obtain ⟨x0, x1, x2, x3⟩ := row_cells4 hrz
 have fz := hrz.frozen
 go_wp2
 obtain ⟨q0, q1, q2, q3⟩ := row_cells4 (row_put4 hrz (limb s) rfl rfl rfl rfl)
 refine bodyPost_ret (v := .tuple #[wv s, .int .i64 0]) (by simp [results, Tryz.results62, go_sem, q0, q1, q2, q3]) rfl (ret2_mk (by rw [HS.out, mul_red]) ?_)
 exact below_put4 hbel (by omega) _ _ _ _
theorem ar3 (a b c : Nat) (w : World) : Calls Tryz.prog 62 #[.int .u8 3, wv a, wv b, wv c] w (Ret2 w (fsub (a % M) (b % M)) 0) := by
 have hs := S4.start w a b c
 go_enter Tryz.func62, Tryz.ntmps62
 go_wp2_with fail
 refine (sub_any a b _).mono ?_
 rintro e w1 ⟨s, HS, rfl, hb⟩
 replace hs := hs.call hb
 clear hb
 have hrz := hs.rz
 have hbel := hs.be
 obtain ⟨x0, x1, x2, x3⟩ := row_cells4 hrz
 have fz := hrz.frozen
 go_wp2
 obtain ⟨q0, q1, q2, q3⟩ := row_cells4 (row_put4 hrz (limb s) rfl rfl rfl rfl)
 refine bodyPost_ret (v := .tuple #[wv s, .int .i64 0]) (by simp [results, Tryz.results62, go_sem, q0, q1, q2, q3]) rfl (ret2_mk (by rw [HS.out, sub_red]) ?_)
 exact below_put4 hbel (by omega) _ _ _ _
theorem ar4 (a b c : Nat) (w : World) : Calls Tryz.prog 62 #[.int .u8 4, wv a, wv b, wv c] w (Ret2 w (fdiv (a % M) (b % M)) 0) := by
 have hs := S4.start w a b c
 go_enter Tryz.func62, Tryz.ntmps62
 go_wp2_with fail
 refine (div_any a b _).mono ?_
 rintro e w1 ⟨s, HS, rfl, hb⟩
 replace hs := hs.call hb
 clear hb
 have hrz := hs.rz
 have hbel := hs.be
 obtain ⟨x0, x1, x2, x3⟩ := row_cells4 hrz
 have fz := hrz.frozen
 go_wp2
 obtain ⟨q0, q1, q2, q3⟩ := row_cells4 (row_put4 hrz (limb s) rfl rfl rfl rfl)
 refine bodyPost_ret (v := .tuple #[wv s, .int .i64 0]) (by simp [results, Tryz.results62, go_sem, q0, q1, q2, q3]) rfl (ret2_mk (by rw [HS.out]) ?_)
 exact below_put4 hbel (by omega) _ _ _ _
theorem ar5 (a b c : Nat) (w : World) : Calls Tryz.prog 62 #[.int .u8 5, wv a, wv b, wv c] w (Ret2 w (fsdiv (a % M) (b % M)) 0) := by
 have hs := S4.start w a b c
 go_enter Tryz.func62, Tryz.ntmps62
 go_wp2_with fail
 refine (sdiv_any a b _).mono ?_
 rintro e w1 ⟨s, HS, rfl, hb⟩
 replace hs := hs.call hb
 clear hb
 have hrz := hs.rz
 have hbel := hs.be
 obtain ⟨x0, x1, x2, x3⟩ := row_cells4 hrz
 have fz := hrz.frozen
 go_wp2
 obtain ⟨q0, q1, q2, q3⟩ := row_cells4 (row_put4 hrz (limb s) rfl rfl rfl rfl)
 refine bodyPost_ret (v := .tuple #[wv s, .int .i64 0]) (by simp [results, Tryz.results62, go_sem, q0, q1, q2, q3]) rfl (ret2_mk (by rw [HS.out]) ?_)
 exact below_put4 hbel (by omega) _ _ _ _
theorem ar6 (a b c : Nat) (w : World) : Calls Tryz.prog 62 #[.int .u8 6, wv a, wv b, wv c] w (Ret2 w (fmod (a % M) (b % M)) 0) := by
 have hs := S4.start w a b c
 go_enter Tryz.func62, Tryz.ntmps62
 go_wp2_with fail
 refine (mod_any a b _).mono ?_
 rintro e w1 ⟨s, HS, rfl, hb⟩
 replace hs := hs.call hb
 clear hb
 have hrz := hs.rz
 have hbel := hs.be
 obtain ⟨x0, x1, x2, x3⟩ := row_cells4 hrz
 have fz := hrz.frozen
 go_wp2
 obtain ⟨q0, q1, q2, q3⟩ := row_cells4 (row_put4 hrz (limb s) rfl rfl rfl rfl)
 refine bodyPost_ret (v := .tuple #[wv s, .int .i64 0]) (by simp [results, Tryz.results62, go_sem, q0, q1, q2, q3]) rfl (ret2_mk (by rw [HS.out]) ?_)
 exact below_put4 hbel (by omega) _ _ _ _
theorem ar7 (a b c : Nat) (w : World) : Calls Tryz.prog 62 #[.int .u8 7, wv a, wv b, wv c] w (Ret2 w (fsmod (a % M) (b % M)) 0) := by
 have hs := S4.start w a b c
 go_enter Tryz.func62, Tryz.ntmps62
 go_wp2_with fail
 refine (smod_any a b _).mono ?_
 rintro e w1 ⟨s, HS, rfl, hb⟩
 replace hs := hs.call hb
 clear hb
 have hrz := hs.rz
 have hbel := hs.be
 obtain ⟨x0, x1, x2, x3⟩ := row_cells4 hrz
 have fz := hrz.frozen
 go_wp2
 obtain ⟨q0, q1, q2, q3⟩ := row_cells4 (row_put4 hrz (limb s) rfl rfl rfl rfl)
 refine bodyPost_ret (v := .tuple #[wv s, .int .i64 0]) (by simp [results, Tryz.results62, go_sem, q0, q1, q2, q3]) rfl (ret2_mk (by rw [HS.out]) ?_)
 exact below_put4 hbel (by omega) _ _ _ _
theorem ar8 (a b c : Nat) (w : World) : Calls Tryz.prog 62 #[.int .u8 8, wv a, wv b, wv c] w (Ret2 w (faddmod (a % M) (b % M) (c % M)) 0) := by
 have hs := S4.start w a b c
 go_enter Tryz.func62, Tryz.ntmps62
 go_wp2_with fail
 refine (addmod_any a b c _).mono ?_
 rintro e w1 ⟨s, HS, rfl, hb⟩
 replace hs := hs.call hb
 clear hb
 have hrz := hs.rz
 have hbel := hs.be
 obtain ⟨x0, x1, x2, x3⟩ := row_cells4 hrz
 have fz := hrz.frozen
 go_wp2
 obtain ⟨q0, q1, q2, q3⟩ := row_cells4 (row_put4 hrz (limb s) rfl rfl rfl rfl)
 refine bodyPost_ret (v := .tuple #[wv s, .int .i64 0]) (by simp [results, Tryz.results62, go_sem, q0, q1, q2, q3]) rfl (ret2_mk (by rw [HS.out]) ?_)
 exact below_put4 hbel (by omega) _ _ _ _
theorem ar9 (a b c : Nat) (w : World) : Calls Tryz.prog 62 #[.int .u8 9, wv a, wv b, wv c] w (Ret2 w (fmulmod (a % M) (b % M) (c % M)) 0) := by
 have hs := S4.start w a b c
 go_enter Tryz.func62, Tryz.ntmps62
 go_wp2_with fail
 refine (mulmod_any a b c _).mono ?_
 rintro e w1 ⟨s, HS, rfl, hb⟩
 replace hs := hs.call hb
 clear hb
 have hrz := hs.rz
 have hbel := hs.be
 obtain ⟨x0, x1, x2, x3⟩ := row_cells4 hrz
 have fz := hrz.frozen
 go_wp2
 obtain ⟨q0, q1, q2, q3⟩ := row_cells4 (row_put4 hrz (limb s) rfl rfl rfl rfl)
 refine bodyPost_ret (v := .tuple #[wv s, .int .i64 0]) (by simp [results, Tryz.results62, go_sem, q0, q1, q2, q3]) rfl (ret2_mk (by rw [HS.out]) ?_)
 exact below_put4 hbel (by omega) _ _ _ _
theorem ar10 (a b c : Nat) (w : World) : Calls Tryz.prog 62 #[.int .u8 10, wv a, wv b, wv c] w (Ret2 w (fexp (a % M) (b % M)) 0) := by
 have hs := S4.start w a b c
 go_enter Tryz.func62, Tryz.ntmps62
 go_wp2_with fail
 refine (exp_any a b _).mono ?_
 rintro e w1 ⟨s, HS, rfl, hb⟩
 replace hs := hs.call hb
 clear hb
 have hrz := hs.rz
 have hbel := hs.be
 obtain ⟨x0, x1, x2, x3⟩ := row_cells4 hrz
 have fz := hrz.frozen
 go_wp2
 obtain ⟨q0, q1, q2, q3⟩ := row_cells4 (row_put4 hrz (limb s) rfl rfl rfl rfl)
 refine bodyPost_ret (v := .tuple #[wv s, .int .i64 0]) (by simp [results, Tryz.results62, go_sem, q0, q1, q2, q3]) rfl (ret2_mk (by rw [HS.out]) ?_)
 exact below_put4 hbel (by omega) _ _ _ _
theorem ar11 (a b c : Nat) (w : World) : Calls Tryz.prog 62 #[.int .u8 11, wv a, wv b, wv c] w (Ret2 w (fsext (a % M) (b % M)) 0) := by
 have hs := S4.start w a b c
 go_enter Tryz.func62, Tryz.ntmps62
 go_wp2_with fail
 refine (signextend_any a b _).mono ?_
 rintro e w1 ⟨s, HS, rfl, hb⟩
 replace hs := hs.call hb
 clear hb
 have hrz := hs.rz
 have hbel := hs.be
 obtain ⟨x0, x1, x2, x3⟩ := row_cells4 hrz
 have fz := hrz.frozen
 go_wp2
 obtain ⟨q0, q1, q2, q3⟩ := row_cells4 (row_put4 hrz (limb s) rfl rfl rfl rfl)
 refine bodyPost_ret (v := .tuple #[wv s, .int .i64 0]) (by simp [results, Tryz.results62, go_sem, q0, q1, q2, q3]) rfl (ret2_mk (by rw [HS.out]) ?_)
 exact below_put4 hbel (by omega) _ _ _ _
theorem ar0 (a b c : Nat) (w : World) : Calls Tryz.prog 62 #[.int .u8 0, wv a, wv b, wv c] w (Ret2 w 0 1) := by
 have hs := S4.start w a b c
 go_enter Tryz.func62, Tryz.ntmps62
 have hrz := hs.rz
 have hbel := hs.be
 go_wp2
 refine bodyPost_ret (v := .tuple #[wv 0, .int .i64 1]) (by rw [← wv_zero]; simp [results, Tryz.results62, go_sem]) rfl (ret2_mk rfl ?_)
 exact hs.be
theorem co16 (a b : Nat) (w : World) : Calls Tryz.prog 63 #[.int .u8 16, wv a, wv b] w (Ret2 w (ftruth (decide (a % M < b % M))) 0) := by
 have hs := SS.start w a b
 go_enter Tryz.func63, Tryz.ntmps63
 go_wp2_with fail
 refine (less_w a b _).mono ?_
 rintro e w1 ⟨t, HT, rfl, hb⟩
 replace hs := hs.call hb
 clear hb
 go_wp2_with fail
 refine (truth_any t _).mono ?_
 rintro e w2 ⟨s, HS, rfl, hb⟩
 replace hs := hs.call hb
 clear hb
 have hrz := hs.rz
 have hbel := hs.be
 obtain ⟨x0, x1, x2, x3⟩ := row_cells4 hrz
 have fz := hrz.frozen
 go_wp2
 obtain ⟨q0, q1, q2, q3⟩ := row_cells4 (row_put4 hrz (limb s) rfl rfl rfl rfl)
 refine bodyPost_ret (v := .tuple #[wv s, .int .i64 0]) (by simp [results, Tryz.results63, go_sem, q0, q1, q2, q3]) rfl (ret2_mk (by rw [HS.out, HT.out]) ?_)
 exact below_put4 hbel (by omega) _ _ _ _
theorem co17 (a b : Nat) (w : World) : Calls Tryz.prog 63 #[.int .u8 17, wv a, wv b] w (Ret2 w (ftruth (decide (b % M < a % M))) 0) := by
 have hs := SS.start w a b
 go_enter Tryz.func63, Tryz.ntmps63
 go_wp2_with fail
 refine (less_w b a _).mono ?_
 rintro e w1 ⟨t, HT, rfl, hb⟩
 replace hs := hs.call hb
 clear hb
 go_wp2_with fail
 refine (truth_any t _).mono ?_
 rintro e w2 ⟨s, HS, rfl, hb⟩
 replace hs := hs.call hb
 clear hb
 have hrz := hs.rz
 have hbel := hs.be
 obtain ⟨x0, x1, x2, x3⟩ := row_cells4 hrz
 have fz := hrz.frozen
 go_wp2
 obtain ⟨q0, q1, q2, q3⟩ := row_cells4 (row_put4 hrz (limb s) rfl rfl rfl rfl)
 refine bodyPost_ret (v := .tuple #[wv s, .int .i64 0]) (by simp [results, Tryz.results63, go_sem, q0, q1, q2, q3]) rfl (ret2_mk (by rw [HS.out, HT.out]) ?_)
 exact below_put4 hbel (by omega) _ _ _ _
theorem co18 (a b : Nat) (w : World) : Calls Tryz.prog 63 #[.int .u8 18, wv a, wv b] w (Ret2 w (ftruth (fslt (a % M) (b % M))) 0) := by
 have hs := SS.start w a b
 go_enter Tryz.func63, Tryz.ntmps63
 go_wp2_with fail
 refine (signedLess_any a b _).mono ?_
 rintro e w1 ⟨t, HT, rfl, hb⟩
 replace hs := hs.call hb
 clear hb
 go_wp2_with fail
 refine (truth_any t _).mono ?_
 rintro e w2 ⟨s, HS, rfl, hb⟩
 replace hs := hs.call hb
 clear hb
 have hrz := hs.rz
 have hbel := hs.be
 obtain ⟨x0, x1, x2, x3⟩ := row_cells4 hrz
 have fz := hrz.frozen
 go_wp2
 obtain ⟨q0, q1, q2, q3⟩ := row_cells4 (row_put4 hrz (limb s) rfl rfl rfl rfl)
 refine bodyPost_ret (v := .tuple #[wv s, .int .i64 0]) (by simp [results, Tryz.results63, go_sem, q0, q1, q2, q3]) rfl (ret2_mk (by rw [HS.out, HT.out]) ?_)
 exact below_put4 hbel (by omega) _ _ _ _
theorem co19 (a b : Nat) (w : World) : Calls Tryz.prog 63 #[.int .u8 19, wv a, wv b] w (Ret2 w (ftruth (fslt (b % M) (a % M))) 0) := by
 have hs := SS.start w a b
 go_enter Tryz.func63, Tryz.ntmps63
 go_wp2_with fail
 refine (signedLess_any b a _).mono ?_
 rintro e w1 ⟨t, HT, rfl, hb⟩
 replace hs := hs.call hb
 clear hb
 go_wp2_with fail
 refine (truth_any t _).mono ?_
 rintro e w2 ⟨s, HS, rfl, hb⟩
 replace hs := hs.call hb
 clear hb
 have hrz := hs.rz
 have hbel := hs.be
 obtain ⟨x0, x1, x2, x3⟩ := row_cells4 hrz
 have fz := hrz.frozen
 go_wp2
 obtain ⟨q0, q1, q2, q3⟩ := row_cells4 (row_put4 hrz (limb s) rfl rfl rfl rfl)
 refine bodyPost_ret (v := .tuple #[wv s, .int .i64 0]) (by simp [results, Tryz.results63, go_sem, q0, q1, q2, q3]) rfl (ret2_mk (by rw [HS.out, HT.out]) ?_)
 exact below_put4 hbel (by omega) _ _ _ _
theorem co20 (a b : Nat) (w : World) : Calls Tryz.prog 63 #[.int .u8 20, wv a, wv b] w (Ret2 w (ftruth (decide (a % M = b % M))) 0) := by
 have hs := SS.start w a b
 obtain ⟨t, HT⟩ : ∃ t, Hid (t = decide (a % M = b % M)) := ⟨_, rfl⟩
 have he : ∀ w, (Op.equalIn 10000 24 (wv a) (wv b)).run Tryz.prog w = .ok t w := fun w => by rw [eq_words, HT.out]; rfl
 go_enter Tryz.func63, Tryz.ntmps63
 go_wp2_with fail
 refine (truth_any t _).mono ?_
 rintro e w2 ⟨s, HS, rfl, hb⟩
 replace hs := hs.call hb
 clear hb
 have hrz := hs.rz
 have hbel := hs.be
 obtain ⟨x0, x1, x2, x3⟩ := row_cells4 hrz
 have fz := hrz.frozen
 go_wp2
 obtain ⟨q0, q1, q2, q3⟩ := row_cells4 (row_put4 hrz (limb s) rfl rfl rfl rfl)
 refine bodyPost_ret (v := .tuple #[wv s, .int .i64 0]) (by simp [results, Tryz.results63, go_sem, q0, q1, q2, q3]) rfl (ret2_mk (by rw [HS.out, HT.out]) ?_)
 exact below_put4 hbel (by omega) _ _ _ _
theorem co21 (a b : Nat) (w : World) : Calls Tryz.prog 63 #[.int .u8 21, wv a, wv b] w (Ret2 w (ftruth (decide (a % M = 0))) 0) := by
 have hs := SS.start w a b
 obtain ⟨t, HT⟩ : ∃ t, Hid (t = decide (a % M = 0)) := ⟨_, rfl⟩
 have he : ∀ w, (Op.equalIn 10000 24 (wv a) (.agg #[.int .u64 0, .int .u64 0, .int .u64 0, .int .u64 0])).run Tryz.prog w = .ok t w := fun w => by rw [eq_zero, HT.out]; rfl
 go_enter Tryz.func63, Tryz.ntmps63
 go_wp2_with fail
 refine (truth_any t _).mono ?_
 rintro e w2 ⟨s, HS, rfl, hb⟩
 replace hs := hs.call hb
 clear hb
 have hrz := hs.rz
 have hbel := hs.be
 obtain ⟨x0, x1, x2, x3⟩ := row_cells4 hrz
 have fz := hrz.frozen
 go_wp2
 obtain ⟨q0, q1, q2, q3⟩ := row_cells4 (row_put4 hrz (limb s) rfl rfl rfl rfl)
 refine bodyPost_ret (v := .tuple #[wv s, .int .i64 0]) (by simp [results, Tryz.results63, go_sem, q0, q1, q2, q3]) rfl (ret2_mk (by rw [HS.out, HT.out]) ?_)
 exact below_put4 hbel (by omega) _ _ _ _
theorem co12 (a b : Nat) (w : World) : Calls Tryz.prog 63 #[.int .u8 12, wv a, wv b] w (Ret2 w 0 1) := by
 have hs := SS.start w a b
 go_enter Tryz.func63, Tryz.ntmps63
 have hrz := hs.rz
 have hbel := hs.be
 go_wp2
 refine bodyPost_ret (v := .tuple #[wv 0, .int .i64 1]) (by rw [← wv_zero]; simp [results, Tryz.results63, go_sem]) rfl (ret2_mk rfl ?_)
 exact hs.be
theorem co13 (a b : Nat) (w : World) : Calls Tryz.prog 63 #[.int .u8 13, wv a, wv b] w (Ret2 w 0 1) := by
 have hs := SS.start w a b
 go_enter Tryz.func63, Tryz.ntmps63
 have hrz := hs.rz
 have hbel := hs.be
 go_wp2
 refine bodyPost_ret (v := .tuple #[wv 0, .int .i64 1]) (by rw [← wv_zero]; simp [results, Tryz.results63, go_sem]) rfl (ret2_mk rfl ?_)
 exact hs.be
theorem co14 (a b : Nat) (w : World) : Calls Tryz.prog 63 #[.int .u8 14, wv a, wv b] w (Ret2 w 0 1) := by
 have hs := SS.start w a b
 go_enter Tryz.func63, Tryz.ntmps63
 have hrz := hs.rz
 have hbel := hs.be
 go_wp2
 refine bodyPost_ret (v := .tuple #[wv 0, .int .i64 1]) (by rw [← wv_zero]; simp [results, Tryz.results63, go_sem]) rfl (ret2_mk rfl ?_)
 exact hs.be
theorem co15 (a b : Nat) (w : World) : Calls Tryz.prog 63 #[.int .u8 15, wv a, wv b] w (Ret2 w 0 1) := by
 have hs := SS.start w a b
 go_enter Tryz.func63, Tryz.ntmps63
 have hrz := hs.rz
 have hbel := hs.be
 go_wp2
 refine bodyPost_ret (v := .tuple #[wv 0, .int .i64 1]) (by rw [← wv_zero]; simp [results, Tryz.results63, go_sem]) rfl (ret2_mk rfl ?_)
 exact hs.be
theorem bi22 (a b : Nat) (w : World) : Calls Tryz.prog 64 #[.int .u8 22, wv a, wv b] w (Ret2 w (a % M &&& b % M) 0) := by
 have hs := SS.start w a b
 go_enter Tryz.func64, Tryz.ntmps64
 go_wp2_with fail
 refine (and_w a b _).mono ?_
 rintro e w1 ⟨s, HS, rfl, hb⟩
 replace hs := hs.call hb
 clear hb
 have hrz := hs.rz
 have hbel := hs.be
 obtain ⟨x0, x1, x2, x3⟩ := row_cells4 hrz
 have fz := hrz.frozen
 go_wp2
 obtain ⟨q0, q1, q2, q3⟩ := row_cells4 (row_put4 hrz (limb s) rfl rfl rfl rfl)
 refine bodyPost_ret (v := .tuple #[wv s, .int .i64 0]) (by simp [results, Tryz.results64, go_sem, q0, q1, q2, q3]) rfl (ret2_mk (by rw [HS.out]) ?_)
 exact below_put4 hbel (by omega) _ _ _ _
theorem bi23 (a b : Nat) (w : World) : Calls Tryz.prog 64 #[.int .u8 23, wv a, wv b] w (Ret2 w (a % M ||| b % M) 0) := by
 have hs := SS.start w a b
 go_enter Tryz.func64, Tryz.ntmps64
 go_wp2_with fail
 refine (or_w a b _).mono ?_
 rintro e w1 ⟨s, HS, rfl, hb⟩
 replace hs := hs.call hb
 clear hb
 have hrz := hs.rz
 have hbel := hs.be
 obtain ⟨x0, x1, x2, x3⟩ := row_cells4 hrz
 have fz := hrz.frozen
 go_wp2
 obtain ⟨q0, q1, q2, q3⟩ := row_cells4 (row_put4 hrz (limb s) rfl rfl rfl rfl)
 refine bodyPost_ret (v := .tuple #[wv s, .int .i64 0]) (by simp [results, Tryz.results64, go_sem, q0, q1, q2, q3]) rfl (ret2_mk (by rw [HS.out]) ?_)
 exact below_put4 hbel (by omega) _ _ _ _
theorem bi24 (a b : Nat) (w : World) : Calls Tryz.prog 64 #[.int .u8 24, wv a, wv b] w (Ret2 w (a % M ^^^ b % M) 0) := by
 have hs := SS.start w a b
 go_enter Tryz.func64, Tryz.ntmps64
 go_wp2_with fail
 refine (xor_w a b _).mono ?_
 rintro e w1 ⟨s, HS, rfl, hb⟩
 replace hs := hs.call hb
 clear hb
 have hrz := hs.rz
 have hbel := hs.be
 obtain ⟨x0, x1, x2, x3⟩ := row_cells4 hrz
 have fz := hrz.frozen
 go_wp2
 obtain ⟨q0, q1, q2, q3⟩ := row_cells4 (row_put4 hrz (limb s) rfl rfl rfl rfl)
 refine bodyPost_ret (v := .tuple #[wv s, .int .i64 0]) (by simp [results, Tryz.results64, go_sem, q0, q1, q2, q3]) rfl (ret2_mk (by rw [HS.out]) ?_)
 exact below_put4 hbel (by omega) _ _ _ _
theorem bi25 (a b : Nat) (w : World) : Calls Tryz.prog 64 #[.int .u8 25, wv a, wv b] w (Ret2 w (fnot (a % M)) 0) := by
 have hs := SS.start w a b
 go_enter Tryz.func64, Tryz.ntmps64
 go_wp2_with fail
 refine (not_w a _).mono ?_
 rintro e w1 ⟨s, HS, rfl, hb⟩
 replace hs := hs.call hb
 clear hb
 have hrz := hs.rz
 have hbel := hs.be
 obtain ⟨x0, x1, x2, x3⟩ := row_cells4 hrz
 have fz := hrz.frozen
 go_wp2
 obtain ⟨q0, q1, q2, q3⟩ := row_cells4 (row_put4 hrz (limb s) rfl rfl rfl rfl)
 refine bodyPost_ret (v := .tuple #[wv s, .int .i64 0]) (by simp [results, Tryz.results64, go_sem, q0, q1, q2, q3]) rfl (ret2_mk (by rw [HS.out]) ?_)
 exact below_put4 hbel (by omega) _ _ _ _
theorem bi26 (a b : Nat) (w : World) : Calls Tryz.prog 64 #[.int .u8 26, wv a, wv b] w (Ret2 w (fbyte (a % M) (b % M)) 0) := by
 have hs := SS.start w a b
 go_enter Tryz.func64, Tryz.ntmps64
 go_wp2_with fail
 refine (byteAt_any a b _).mono ?_
 rintro e w1 ⟨s, HS, rfl, hb⟩
 replace hs := hs.call hb
 clear hb
 have hrz := hs.rz
 have hbel := hs.be
 obtain ⟨x0, x1, x2, x3⟩ := row_cells4 hrz
 have fz := hrz.frozen
 go_wp2
 obtain ⟨q0, q1, q2, q3⟩ := row_cells4 (row_put4 hrz (limb s) rfl rfl rfl rfl)
 refine bodyPost_ret (v := .tuple #[wv s, .int .i64 0]) (by simp [results, Tryz.results64, go_sem, q0, q1, q2, q3]) rfl (ret2_mk (by rw [HS.out]) ?_)
 exact below_put4 hbel (by omega) _ _ _ _
theorem bi27 (a b : Nat) (w : World) : Calls Tryz.prog 64 #[.int .u8 27, wv a, wv b] w (Ret2 w (fshl (a % M) (b % M)) 0) := by
 have hs := SS.start w a b
 go_enter Tryz.func64, Tryz.ntmps64
 go_wp2_with fail
 refine (shl_w a b _).mono ?_
 rintro e w1 ⟨s, HS, rfl, hb⟩
 replace hs := hs.call hb
 clear hb
 have hrz := hs.rz
 have hbel := hs.be
 obtain ⟨x0, x1, x2, x3⟩ := row_cells4 hrz
 have fz := hrz.frozen
 go_wp2
 obtain ⟨q0, q1, q2, q3⟩ := row_cells4 (row_put4 hrz (limb s) rfl rfl rfl rfl)
 refine bodyPost_ret (v := .tuple #[wv s, .int .i64 0]) (by simp [results, Tryz.results64, go_sem, q0, q1, q2, q3]) rfl (ret2_mk (by rw [HS.out, shl_red]) ?_)
 exact below_put4 hbel (by omega) _ _ _ _
theorem bi28 (a b : Nat) (w : World) : Calls Tryz.prog 64 #[.int .u8 28, wv a, wv b] w (Ret2 w (fshr (a % M) (b % M)) 0) := by
 have hs := SS.start w a b
 go_enter Tryz.func64, Tryz.ntmps64
 go_wp2_with fail
 refine (shr_w a b _).mono ?_
 rintro e w1 ⟨s, HS, rfl, hb⟩
 replace hs := hs.call hb
 clear hb
 have hrz := hs.rz
 have hbel := hs.be
 obtain ⟨x0, x1, x2, x3⟩ := row_cells4 hrz
 have fz := hrz.frozen
 go_wp2
 obtain ⟨q0, q1, q2, q3⟩ := row_cells4 (row_put4 hrz (limb s) rfl rfl rfl rfl)
 refine bodyPost_ret (v := .tuple #[wv s, .int .i64 0]) (by simp [results, Tryz.results64, go_sem, q0, q1, q2, q3]) rfl (ret2_mk (by rw [HS.out]) ?_)
 exact below_put4 hbel (by omega) _ _ _ _
theorem bi29 (a b : Nat) (w : World) : Calls Tryz.prog 64 #[.int .u8 29, wv a, wv b] w (Ret2 w (fsar (a % M) (b % M)) 0) := by
 have hs := SS.start w a b
 go_enter Tryz.func64, Tryz.ntmps64
 go_wp2_with fail
 refine (sar_any a b _).mono ?_
 rintro e w1 ⟨s, HS, rfl, hb⟩
 replace hs := hs.call hb
 clear hb
 have hrz := hs.rz
 have hbel := hs.be
 obtain ⟨x0, x1, x2, x3⟩ := row_cells4 hrz
 have fz := hrz.frozen
 go_wp2
 obtain ⟨q0, q1, q2, q3⟩ := row_cells4 (row_put4 hrz (limb s) rfl rfl rfl rfl)
 refine bodyPost_ret (v := .tuple #[wv s, .int .i64 0]) (by simp [results, Tryz.results64, go_sem, q0, q1, q2, q3]) rfl (ret2_mk (by rw [HS.out]) ?_)
 exact below_put4 hbel (by omega) _ _ _ _
theorem biX (op : Nat) (ho : 30 ≤ op) (ho2 : op ≤ 255) (a b : Nat) (w : World) : Calls Tryz.prog 64 #[.int .u8 (op : Int), wv a, wv b] w (Ret2 w 0 1) := by
 have hs := SS.start w a b
 go_enter Tryz.func64, Tryz.ntmps64
 have hrz := hs.rz
 have hbel := hs.be
 go_wp2
 refine bodyPost_ret (v := .tuple #[wv 0, .int .i64 1]) (by rw [← wv_zero]; simp [results, Tryz.results64, go_sem]) rfl (ret2_mk rfl ?_)
 exact hs.be
end
section
open Go.RowKit
set_option maxHeartbeats 8000000
set_option maxRecDepth 100000
theorem calc0 (a b c : Nat) (w : World) : Calls Tryz.prog 36 #[.int .u8 0, wv a, wv b, wv c] w (Ret2 w (0) 1) := by
 have hs := S4.start w a b c
 go_enter Tryz.func36, Tryz.ntmps36
 go_wp2_with fail
 refine (ar0 a b c _).mono ?_
 rintro e w1 ⟨s, HS, rfl, hb⟩
 replace hs := hs.call hb
 clear hb
 have hrz := hs.rz
 have hbel := hs.be
 obtain ⟨x0, x1, x2, x3⟩ := row_cells4 hrz
 have fz := hrz.frozen
 go_wp2
 obtain ⟨q0, q1, q2, q3⟩ := row_cells4 (row_put4 hrz (limb s) rfl rfl rfl rfl)
 refine bodyPost_ret (v := .tuple #[wv s, .int .i64 1]) (by simp [results, Tryz.results36, go_sem, q0, q1, q2, q3]) rfl (ret2_mk (by rw [HS.out]) ?_)
 exact below_put4 hbel (by omega) _ _ _ _
theorem calc1 (a b c : Nat) (w : World) : Calls Tryz.prog 36 #[.int .u8 1, wv a, wv b, wv c] w (Ret2 w (fadd (a % M) (b % M)) 0) := by
 have hs := S4.start w a b c
 go_enter Tryz.func36, Tryz.ntmps36
 go_wp2_with fail
 refine (ar1 a b c _).mono ?_
 rintro e w1 ⟨s, HS, rfl, hb⟩
 replace hs := hs.call hb
 clear hb
 have hrz := hs.rz
 have hbel := hs.be
 obtain ⟨x0, x1, x2, x3⟩ := row_cells4 hrz
 have fz := hrz.frozen
 go_wp2
 obtain ⟨q0, q1, q2, q3⟩ := row_cells4 (row_put4 hrz (limb s) rfl rfl rfl rfl)
 refine bodyPost_ret (v := .tuple #[wv s, .int .i64 0]) (by simp [results, Tryz.results36, go_sem, q0, q1, q2, q3]) rfl (ret2_mk (by rw [HS.out]) ?_)
 exact below_put4 hbel (by omega) _ _ _ _
theorem calc2 (a b c : Nat) (w : World) : Calls Tryz.prog 36 #[.int .u8 2, wv a, wv b, wv c] w (Ret2 w (fmul (a % M) (b % M)) 0) := by
 have hs := S4.start w a b c
 go_enter Tryz.func36, Tryz.ntmps36
 go_wp2_with fail
 refine (ar2 a b c _).mono ?_
 rintro e w1 ⟨s, HS, rfl, hb⟩
 replace hs := hs.call hb
 clear hb
 have hrz := hs.rz
 have hbel := hs.be
 obtain ⟨x0, x1, x2, x3⟩ := row_cells4 hrz
 have fz := hrz.frozen
 go_wp2
 obtain ⟨q0, q1, q2, q3⟩ := row_cells4 (row_put4 hrz (limb s) rfl rfl rfl rfl)
 refine bodyPost_ret (v := .tuple #[wv s, .int .i64 0]) (by simp [results, Tryz.results36, go_sem, q0, q1, q2, q3]) rfl (ret2_mk (by rw [HS.out]) ?_)
 exact below_put4 hbel (by omega) _ _ _ _
theorem calc3 (a b c : Nat) (w : World) : Calls Tryz.prog 36 #[.int .u8 3, wv a, wv b, wv c] w (Ret2 w (fsub (a % M) (b % M)) 0) := by
 have hs := S4.start w a b c
 go_enter Tryz.func36, Tryz.ntmps36
 go_wp2_with fail
 refine (ar3 a b c _).mono ?_
 rintro e w1 ⟨s, HS, rfl, hb⟩
 replace hs := hs.call hb
 clear hb
 have hrz := hs.rz
 have hbel := hs.be
 obtain ⟨x0, x1, x2, x3⟩ := row_cells4 hrz
 have fz := hrz.frozen
 go_wp2
 obtain ⟨q0, q1, q2, q3⟩ := row_cells4 (row_put4 hrz (limb s) rfl rfl rfl rfl)
 refine bodyPost_ret (v := .tuple #[wv s, .int .i64 0]) (by simp [results, Tryz.results36, go_sem, q0, q1, q2, q3]) rfl (ret2_mk (by rw [HS.out]) ?_)
 exact below_put4 hbel (by omega) _ _ _ _
theorem calc4 (a b c : Nat) (w : World) : Calls Tryz.prog 36 #[.int .u8 4, wv a, wv b, wv c] w (Ret2 w (fdiv (a % M) (b % M)) 0) := by
 have hs := S4.start w a b c
 go_enter Tryz.func36, Tryz.ntmps36
 go_wp2_with fail
 refine (ar4 a b c _).mono ?_
 rintro e w1 ⟨s, HS, rfl, hb⟩
 replace hs := hs.call hb
 clear hb
 have hrz := hs.rz
 have hbel := hs.be
 obtain ⟨x0, x1, x2, x3⟩ := row_cells4 hrz
 have fz := hrz.frozen
 go_wp2
 obtain ⟨q0, q1, q2, q3⟩ := row_cells4 (row_put4 hrz (limb s) rfl rfl rfl rfl)
 refine bodyPost_ret (v := .tuple #[wv s, .int .i64 0]) (by simp [results, Tryz.results36, go_sem, q0, q1, q2, q3]) rfl (ret2_mk (by rw [HS.out]) ?_)
 exact below_put4 hbel (by omega) _ _ _ _
theorem calc5 (a b c : Nat) (w : World) : Calls Tryz.prog 36 #[.int .u8 5, wv a, wv b, wv c] w (Ret2 w (fsdiv (a % M) (b % M)) 0) := by
 have hs := S4.start w a b c
 go_enter Tryz.func36, Tryz.ntmps36
 go_wp2_with fail
 refine (ar5 a b c _).mono ?_
 rintro e w1 ⟨s, HS, rfl, hb⟩
 replace hs := hs.call hb
 clear hb
 have hrz := hs.rz
 have hbel := hs.be
 obtain ⟨x0, x1, x2, x3⟩ := row_cells4 hrz
 have fz := hrz.frozen
 go_wp2
 obtain ⟨q0, q1, q2, q3⟩ := row_cells4 (row_put4 hrz (limb s) rfl rfl rfl rfl)
 refine bodyPost_ret (v := .tuple #[wv s, .int .i64 0]) (by simp [results, Tryz.results36, go_sem, q0, q1, q2, q3]) rfl (ret2_mk (by rw [HS.out]) ?_)
 exact below_put4 hbel (by omega) _ _ _ _
theorem calc6 (a b c : Nat) (w : World) : Calls Tryz.prog 36 #[.int .u8 6, wv a, wv b, wv c] w (Ret2 w (fmod (a % M) (b % M)) 0) := by
 have hs := S4.start w a b c
 go_enter Tryz.func36, Tryz.ntmps36
 go_wp2_with fail
 refine (ar6 a b c _).mono ?_
 rintro e w1 ⟨s, HS, rfl, hb⟩
 replace hs := hs.call hb
 clear hb
 have hrz := hs.rz
 have hbel := hs.be
 obtain ⟨x0, x1, x2, x3⟩ := row_cells4 hrz
 have fz := hrz.frozen
 go_wp2
 obtain ⟨q0, q1, q2, q3⟩ := row_cells4 (row_put4 hrz (limb s) rfl rfl rfl rfl)
 refine bodyPost_ret (v := .tuple #[wv s, .int .i64 0]) (by simp [results, Tryz.results36, go_sem, q0, q1, q2, q3]) rfl (ret2_mk (by rw [HS.out]) ?_)
 exact below_put4 hbel (by omega) _ _ _ _
theorem calc7 (a b c : Nat) (w : World) : Calls Tryz.prog 36 #[.int .u8 7, wv a, wv b, wv c] w (Ret2 w (fsmod (a % M) (b % M)) 0) := by
 have hs := S4.start w a b c
 go_enter Tryz.func36, Tryz.ntmps36
 go_wp2_with fail
 refine (ar7 a b c _).mono ?_
 rintro e w1 ⟨s, HS, rfl, hb⟩
 replace hs := hs.call hb
 clear hb
 have hrz := hs.rz
 have hbel := hs.be
 obtain ⟨x0, x1, x2, x3⟩ := row_cells4 hrz
 have fz := hrz.frozen
 go_wp2
 obtain ⟨q0, q1, q2, q3⟩ := row_cells4 (row_put4 hrz (limb s) rfl rfl rfl rfl)
 refine bodyPost_ret (v := .tuple #[wv s, .int .i64 0]) (by simp [results, Tryz.results36, go_sem, q0, q1, q2, q3]) rfl (ret2_mk (by rw [HS.out]) ?_)
 exact below_put4 hbel (by omega) _ _ _ _
theorem calc8 (a b c : Nat) (w : World) : Calls Tryz.prog 36 #[.int .u8 8, wv a, wv b, wv c] w (Ret2 w (faddmod (a % M) (b % M) (c % M)) 0) := by
 have hs := S4.start w a b c
 go_enter Tryz.func36, Tryz.ntmps36
 go_wp2_with fail
 refine (ar8 a b c _).mono ?_
 rintro e w1 ⟨s, HS, rfl, hb⟩
 replace hs := hs.call hb
 clear hb
 have hrz := hs.rz
 have hbel := hs.be
 obtain ⟨x0, x1, x2, x3⟩ := row_cells4 hrz
 have fz := hrz.frozen
 go_wp2
 obtain ⟨q0, q1, q2, q3⟩ := row_cells4 (row_put4 hrz (limb s) rfl rfl rfl rfl)
 refine bodyPost_ret (v := .tuple #[wv s, .int .i64 0]) (by simp [results, Tryz.results36, go_sem, q0, q1, q2, q3]) rfl (ret2_mk (by rw [HS.out]) ?_)
 exact below_put4 hbel (by omega) _ _ _ _
theorem calc9 (a b c : Nat) (w : World) : Calls Tryz.prog 36 #[.int .u8 9, wv a, wv b, wv c] w (Ret2 w (fmulmod (a % M) (b % M) (c % M)) 0) := by
 have hs := S4.start w a b c
 go_enter Tryz.func36, Tryz.ntmps36
 go_wp2_with fail
 refine (ar9 a b c _).mono ?_
 rintro e w1 ⟨s, HS, rfl, hb⟩
 replace hs := hs.call hb
 clear hb
 have hrz := hs.rz
 have hbel := hs.be
 obtain ⟨x0, x1, x2, x3⟩ := row_cells4 hrz
 have fz := hrz.frozen
 go_wp2
 obtain ⟨q0, q1, q2, q3⟩ := row_cells4 (row_put4 hrz (limb s) rfl rfl rfl rfl)
 refine bodyPost_ret (v := .tuple #[wv s, .int .i64 0]) (by simp [results, Tryz.results36, go_sem, q0, q1, q2, q3]) rfl (ret2_mk (by rw [HS.out]) ?_)
 exact below_put4 hbel (by omega) _ _ _ _
theorem calc10 (a b c : Nat) (w : World) : Calls Tryz.prog 36 #[.int .u8 10, wv a, wv b, wv c] w (Ret2 w (fexp (a % M) (b % M)) 0) := by
 have hs := S4.start w a b c
 go_enter Tryz.func36, Tryz.ntmps36
 go_wp2_with fail
 refine (ar10 a b c _).mono ?_
 rintro e w1 ⟨s, HS, rfl, hb⟩
 replace hs := hs.call hb
 clear hb
 have hrz := hs.rz
 have hbel := hs.be
 obtain ⟨x0, x1, x2, x3⟩ := row_cells4 hrz
 have fz := hrz.frozen
 go_wp2
 obtain ⟨q0, q1, q2, q3⟩ := row_cells4 (row_put4 hrz (limb s) rfl rfl rfl rfl)
 refine bodyPost_ret (v := .tuple #[wv s, .int .i64 0]) (by simp [results, Tryz.results36, go_sem, q0, q1, q2, q3]) rfl (ret2_mk (by rw [HS.out]) ?_)
 exact below_put4 hbel (by omega) _ _ _ _
theorem calc11 (a b c : Nat) (w : World) : Calls Tryz.prog 36 #[.int .u8 11, wv a, wv b, wv c] w (Ret2 w (fsext (a % M) (b % M)) 0) := by
 have hs := S4.start w a b c
 go_enter Tryz.func36, Tryz.ntmps36
 go_wp2_with fail
 refine (ar11 a b c _).mono ?_
 rintro e w1 ⟨s, HS, rfl, hb⟩
 replace hs := hs.call hb
 clear hb
 have hrz := hs.rz
 have hbel := hs.be
 obtain ⟨x0, x1, x2, x3⟩ := row_cells4 hrz
 have fz := hrz.frozen
 go_wp2
 obtain ⟨q0, q1, q2, q3⟩ := row_cells4 (row_put4 hrz (limb s) rfl rfl rfl rfl)
 refine bodyPost_ret (v := .tuple #[wv s, .int .i64 0]) (by simp [results, Tryz.results36, go_sem, q0, q1, q2, q3]) rfl (ret2_mk (by rw [HS.out]) ?_)
 exact below_put4 hbel (by omega) _ _ _ _
theorem calc12 (a b c : Nat) (w : World) : Calls Tryz.prog 36 #[.int .u8 12, wv a, wv b, wv c] w (Ret2 w (0) 1) := by
 have hs := S4.start w a b c
 go_enter Tryz.func36, Tryz.ntmps36
 go_wp2_with fail
 refine (co12 a b _).mono ?_
 rintro e w1 ⟨s, HS, rfl, hb⟩
 replace hs := hs.call hb
 clear hb
 have hrz := hs.rz
 have hbel := hs.be
 obtain ⟨x0, x1, x2, x3⟩ := row_cells4 hrz
 have fz := hrz.frozen
 go_wp2
 obtain ⟨q0, q1, q2, q3⟩ := row_cells4 (row_put4 hrz (limb s) rfl rfl rfl rfl)
 refine bodyPost_ret (v := .tuple #[wv s, .int .i64 1]) (by simp [results, Tryz.results36, go_sem, q0, q1, q2, q3]) rfl (ret2_mk (by rw [HS.out]) ?_)
 exact below_put4 hbel (by omega) _ _ _ _
theorem calc13 (a b c : Nat) (w : World) : Calls Tryz.prog 36 #[.int .u8 13, wv a, wv b, wv c] w (Ret2 w (0) 1) := by
 have hs := S4.start w a b c
 go_enter Tryz.func36, Tryz.ntmps36
 go_wp2_with fail
 refine (co13 a b _).mono ?_
 rintro e w1 ⟨s, HS, rfl, hb⟩
 replace hs := hs.call hb
 clear hb
 have hrz := hs.rz
 have hbel := hs.be
 obtain ⟨x0, x1, x2, x3⟩ := row_cells4 hrz
 have fz := hrz.frozen
 go_wp2
 obtain ⟨q0, q1, q2, q3⟩ := row_cells4 (row_put4 hrz (limb s) rfl rfl rfl rfl)
 refine bodyPost_ret (v := .tuple #[wv s, .int .i64 1]) (by simp [results, Tryz.results36, go_sem, q0, q1, q2, q3]) rfl (ret2_mk (by rw [HS.out]) ?_)
 exact below_put4 hbel (by omega) _ _ _ _
theorem calc14 (a b c : Nat) (w : World) : Calls Tryz.prog 36 #[.int .u8 14, wv a, wv b, wv c] w (Ret2 w (0) 1) := by
 have hs := S4.start w a b c
 go_enter Tryz.func36, Tryz.ntmps36
 go_wp2_with fail
 refine (co14 a b _).mono ?_
 rintro e w1 ⟨s, HS, rfl, hb⟩
 replace hs := hs.call hb
 clear hb
 have hrz := hs.rz
 have hbel := hs.be
 obtain ⟨x0, x1, x2, x3⟩ := row_cells4 hrz
 have fz := hrz.frozen
 go_wp2
 obtain ⟨q0, q1, q2, q3⟩ := row_cells4 (row_put4 hrz (limb s) rfl rfl rfl rfl)
 refine bodyPost_ret (v := .tuple #[wv s, .int .i64 1]) (by simp [results, Tryz.results36, go_sem, q0, q1, q2, q3]) rfl (ret2_mk (by rw [HS.out]) ?_)
 exact below_put4 hbel (by omega) _ _ _ _
theorem calc15 (a b c : Nat) (w : World) : Calls Tryz.prog 36 #[.int .u8 15, wv a, wv b, wv c] w (Ret2 w (0) 1) := by
 have hs := S4.start w a b c
 go_enter Tryz.func36, Tryz.ntmps36
 go_wp2_with fail
 refine (co15 a b _).mono ?_
 rintro e w1 ⟨s, HS, rfl, hb⟩
 replace hs := hs.call hb
 clear hb
 have hrz := hs.rz
 have hbel := hs.be
 obtain ⟨x0, x1, x2, x3⟩ := row_cells4 hrz
 have fz := hrz.frozen
 go_wp2
 obtain ⟨q0, q1, q2, q3⟩ := row_cells4 (row_put4 hrz (limb s) rfl rfl rfl rfl)
 refine bodyPost_ret (v := .tuple #[wv s, .int .i64 1]) (by simp [results, Tryz.results36, go_sem, q0, q1, q2, q3]) rfl (ret2_mk (by rw [HS.out]) ?_)
 exact below_put4 hbel (by omega) _ _ _ _
theorem calc16 (a b c : Nat) (w : World) : Calls Tryz.prog 36 #[.int .u8 16, wv a, wv b, wv c] w (Ret2 w (ftruth (decide (a % M < b % M))) 0) := by
 have hs := S4.start w a b c
 go_enter Tryz.func36, Tryz.ntmps36
 go_wp2_with fail
 refine (co16 a b _).mono ?_
 rintro e w1 ⟨s, HS, rfl, hb⟩
 replace hs := hs.call hb
 clear hb
 have hrz := hs.rz
 have hbel := hs.be
 obtain ⟨x0, x1, x2, x3⟩ := row_cells4 hrz
 have fz := hrz.frozen
 go_wp2
 obtain ⟨q0, q1, q2, q3⟩ := row_cells4 (row_put4 hrz (limb s) rfl rfl rfl rfl)
 refine bodyPost_ret (v := .tuple #[wv s, .int .i64 0]) (by simp [results, Tryz.results36, go_sem, q0, q1, q2, q3]) rfl (ret2_mk (by rw [HS.out]) ?_)
 exact below_put4 hbel (by omega) _ _ _ _
theorem calc17 (a b c : Nat) (w : World) : Calls Tryz.prog 36 #[.int .u8 17, wv a, wv b, wv c] w (Ret2 w (ftruth (decide (b % M < a % M))) 0) := by
 have hs := S4.start w a b c
 go_enter Tryz.func36, Tryz.ntmps36
 go_wp2_with fail
 refine (co17 a b _).mono ?_
 rintro e w1 ⟨s, HS, rfl, hb⟩
 replace hs := hs.call hb
 clear hb
 have hrz := hs.rz
 have hbel := hs.be
 obtain ⟨x0, x1, x2, x3⟩ := row_cells4 hrz
 have fz := hrz.frozen
 go_wp2
 obtain ⟨q0, q1, q2, q3⟩ := row_cells4 (row_put4 hrz (limb s) rfl rfl rfl rfl)
 refine bodyPost_ret (v := .tuple #[wv s, .int .i64 0]) (by simp [results, Tryz.results36, go_sem, q0, q1, q2, q3]) rfl (ret2_mk (by rw [HS.out]) ?_)
 exact below_put4 hbel (by omega) _ _ _ _
theorem calc18 (a b c : Nat) (w : World) : Calls Tryz.prog 36 #[.int .u8 18, wv a, wv b, wv c] w (Ret2 w (ftruth (fslt (a % M) (b % M))) 0) := by
 have hs := S4.start w a b c
 go_enter Tryz.func36, Tryz.ntmps36
 go_wp2_with fail
 refine (co18 a b _).mono ?_
 rintro e w1 ⟨s, HS, rfl, hb⟩
 replace hs := hs.call hb
 clear hb
 have hrz := hs.rz
 have hbel := hs.be
 obtain ⟨x0, x1, x2, x3⟩ := row_cells4 hrz
 have fz := hrz.frozen
 go_wp2
 obtain ⟨q0, q1, q2, q3⟩ := row_cells4 (row_put4 hrz (limb s) rfl rfl rfl rfl)
 refine bodyPost_ret (v := .tuple #[wv s, .int .i64 0]) (by simp [results, Tryz.results36, go_sem, q0, q1, q2, q3]) rfl (ret2_mk (by rw [HS.out]) ?_)
 exact below_put4 hbel (by omega) _ _ _ _
theorem calc19 (a b c : Nat) (w : World) : Calls Tryz.prog 36 #[.int .u8 19, wv a, wv b, wv c] w (Ret2 w (ftruth (fslt (b % M) (a % M))) 0) := by
 have hs := S4.start w a b c
 go_enter Tryz.func36, Tryz.ntmps36
 go_wp2_with fail
 refine (co19 a b _).mono ?_
 rintro e w1 ⟨s, HS, rfl, hb⟩
 replace hs := hs.call hb
 clear hb
 have hrz := hs.rz
 have hbel := hs.be
 obtain ⟨x0, x1, x2, x3⟩ := row_cells4 hrz
 have fz := hrz.frozen
 go_wp2
 obtain ⟨q0, q1, q2, q3⟩ := row_cells4 (row_put4 hrz (limb s) rfl rfl rfl rfl)
 refine bodyPost_ret (v := .tuple #[wv s, .int .i64 0]) (by simp [results, Tryz.results36, go_sem, q0, q1, q2, q3]) rfl (ret2_mk (by rw [HS.out]) ?_)
 exact below_put4 hbel (by omega) _ _ _ _
theorem calc20 (a b c : Nat) (w : World) : Calls Tryz.prog 36 #[.int .u8 20, wv a, wv b, wv c] w (Ret2 w (ftruth (decide (a % M = b % M))) 0) := by
 have hs := S4.start w a b c
 go_enter Tryz.func36, Tryz.ntmps36
 go_wp2_with fail
 refine (co20 a b _).mono ?_
 rintro e w1 ⟨s, HS, rfl, hb⟩
 replace hs := hs.call hb
 clear hb
 have hrz := hs.rz
 have hbel := hs.be
 obtain ⟨x0, x1, x2, x3⟩ := row_cells4 hrz
 have fz := hrz.frozen
 go_wp2
 obtain ⟨q0, q1, q2, q3⟩ := row_cells4 (row_put4 hrz (limb s) rfl rfl rfl rfl)
 refine bodyPost_ret (v := .tuple #[wv s, .int .i64 0]) (by simp [results, Tryz.results36, go_sem, q0, q1, q2, q3]) rfl (ret2_mk (by rw [HS.out]) ?_)
 exact below_put4 hbel (by omega) _ _ _ _
theorem calc21 (a b c : Nat) (w : World) : Calls Tryz.prog 36 #[.int .u8 21, wv a, wv b, wv c] w (Ret2 w (ftruth (decide (a % M = 0))) 0) := by
 have hs := S4.start w a b c
 go_enter Tryz.func36, Tryz.ntmps36
 go_wp2_with fail
 refine (co21 a b _).mono ?_
 rintro e w1 ⟨s, HS, rfl, hb⟩
 replace hs := hs.call hb
 clear hb
 have hrz := hs.rz
 have hbel := hs.be
 obtain ⟨x0, x1, x2, x3⟩ := row_cells4 hrz
 have fz := hrz.frozen
 go_wp2
 obtain ⟨q0, q1, q2, q3⟩ := row_cells4 (row_put4 hrz (limb s) rfl rfl rfl rfl)
 refine bodyPost_ret (v := .tuple #[wv s, .int .i64 0]) (by simp [results, Tryz.results36, go_sem, q0, q1, q2, q3]) rfl (ret2_mk (by rw [HS.out]) ?_)
 exact below_put4 hbel (by omega) _ _ _ _
theorem calc22 (a b c : Nat) (w : World) : Calls Tryz.prog 36 #[.int .u8 22, wv a, wv b, wv c] w (Ret2 w (a % M &&& b % M) 0) := by
 have hs := S4.start w a b c
 go_enter Tryz.func36, Tryz.ntmps36
 go_wp2_with fail
 refine (bi22 a b _).mono ?_
 rintro e w1 ⟨s, HS, rfl, hb⟩
 replace hs := hs.call hb
 clear hb
 have hrz := hs.rz
 have hbel := hs.be
 obtain ⟨x0, x1, x2, x3⟩ := row_cells4 hrz
 have fz := hrz.frozen
 go_wp2
 obtain ⟨q0, q1, q2, q3⟩ := row_cells4 (row_put4 hrz (limb s) rfl rfl rfl rfl)
 refine bodyPost_ret (v := .tuple #[wv s, .int .i64 0]) (by simp [results, Tryz.results36, go_sem, q0, q1, q2, q3]) rfl (ret2_mk (by rw [HS.out]) ?_)
 exact below_put4 hbel (by omega) _ _ _ _
theorem calc23 (a b c : Nat) (w : World) : Calls Tryz.prog 36 #[.int .u8 23, wv a, wv b, wv c] w (Ret2 w (a % M ||| b % M) 0) := by
 have hs := S4.start w a b c
 go_enter Tryz.func36, Tryz.ntmps36
 go_wp2_with fail
 refine (bi23 a b _).mono ?_
 rintro e w1 ⟨s, HS, rfl, hb⟩
 replace hs := hs.call hb
 clear hb
 have hrz := hs.rz
 have hbel := hs.be
 obtain ⟨x0, x1, x2, x3⟩ := row_cells4 hrz
 have fz := hrz.frozen
 go_wp2
 obtain ⟨q0, q1, q2, q3⟩ := row_cells4 (row_put4 hrz (limb s) rfl rfl rfl rfl)
 refine bodyPost_ret (v := .tuple #[wv s, .int .i64 0]) (by simp [results, Tryz.results36, go_sem, q0, q1, q2, q3]) rfl (ret2_mk (by rw [HS.out]) ?_)
 exact below_put4 hbel (by omega) _ _ _ _
theorem calc24 (a b c : Nat) (w : World) : Calls Tryz.prog 36 #[.int .u8 24, wv a, wv b, wv c] w (Ret2 w (a % M ^^^ b % M) 0) := by
 have hs := S4.start w a b c
 go_enter Tryz.func36, Tryz.ntmps36
 go_wp2_with fail
 refine (bi24 a b _).mono ?_
 rintro e w1 ⟨s, HS, rfl, hb⟩
 replace hs := hs.call hb
 clear hb
 have hrz := hs.rz
 have hbel := hs.be
 obtain ⟨x0, x1, x2, x3⟩ := row_cells4 hrz
 have fz := hrz.frozen
 go_wp2
 obtain ⟨q0, q1, q2, q3⟩ := row_cells4 (row_put4 hrz (limb s) rfl rfl rfl rfl)
 refine bodyPost_ret (v := .tuple #[wv s, .int .i64 0]) (by simp [results, Tryz.results36, go_sem, q0, q1, q2, q3]) rfl (ret2_mk (by rw [HS.out]) ?_)
 exact below_put4 hbel (by omega) _ _ _ _
theorem calc25 (a b c : Nat) (w : World) : Calls Tryz.prog 36 #[.int .u8 25, wv a, wv b, wv c] w (Ret2 w (fnot (a % M)) 0) := by
 have hs := S4.start w a b c
 go_enter Tryz.func36, Tryz.ntmps36
 go_wp2_with fail
 refine (bi25 a b _).mono ?_
 rintro e w1 ⟨s, HS, rfl, hb⟩
 replace hs := hs.call hb
 clear hb
 have hrz := hs.rz
 have hbel := hs.be
 obtain ⟨x0, x1, x2, x3⟩ := row_cells4 hrz
 have fz := hrz.frozen
 go_wp2
 obtain ⟨q0, q1, q2, q3⟩ := row_cells4 (row_put4 hrz (limb s) rfl rfl rfl rfl)
 refine bodyPost_ret (v := .tuple #[wv s, .int .i64 0]) (by simp [results, Tryz.results36, go_sem, q0, q1, q2, q3]) rfl (ret2_mk (by rw [HS.out]) ?_)
 exact below_put4 hbel (by omega) _ _ _ _
theorem calc26 (a b c : Nat) (w : World) : Calls Tryz.prog 36 #[.int .u8 26, wv a, wv b, wv c] w (Ret2 w (fbyte (a % M) (b % M)) 0) := by
 have hs := S4.start w a b c
 go_enter Tryz.func36, Tryz.ntmps36
 go_wp2_with fail
 refine (bi26 a b _).mono ?_
 rintro e w1 ⟨s, HS, rfl, hb⟩
 replace hs := hs.call hb
 clear hb
 have hrz := hs.rz
 have hbel := hs.be
 obtain ⟨x0, x1, x2, x3⟩ := row_cells4 hrz
 have fz := hrz.frozen
 go_wp2
 obtain ⟨q0, q1, q2, q3⟩ := row_cells4 (row_put4 hrz (limb s) rfl rfl rfl rfl)
 refine bodyPost_ret (v := .tuple #[wv s, .int .i64 0]) (by simp [results, Tryz.results36, go_sem, q0, q1, q2, q3]) rfl (ret2_mk (by rw [HS.out]) ?_)
 exact below_put4 hbel (by omega) _ _ _ _
theorem calc27 (a b c : Nat) (w : World) : Calls Tryz.prog 36 #[.int .u8 27, wv a, wv b, wv c] w (Ret2 w (fshl (a % M) (b % M)) 0) := by
 have hs := S4.start w a b c
 go_enter Tryz.func36, Tryz.ntmps36
 go_wp2_with fail
 refine (bi27 a b _).mono ?_
 rintro e w1 ⟨s, HS, rfl, hb⟩
 replace hs := hs.call hb
 clear hb
 have hrz := hs.rz
 have hbel := hs.be
 obtain ⟨x0, x1, x2, x3⟩ := row_cells4 hrz
 have fz := hrz.frozen
 go_wp2
 obtain ⟨q0, q1, q2, q3⟩ := row_cells4 (row_put4 hrz (limb s) rfl rfl rfl rfl)
 refine bodyPost_ret (v := .tuple #[wv s, .int .i64 0]) (by simp [results, Tryz.results36, go_sem, q0, q1, q2, q3]) rfl (ret2_mk (by rw [HS.out]) ?_)
 exact below_put4 hbel (by omega) _ _ _ _
theorem calc28 (a b c : Nat) (w : World) : Calls Tryz.prog 36 #[.int .u8 28, wv a, wv b, wv c] w (Ret2 w (fshr (a % M) (b % M)) 0) := by
 have hs := S4.start w a b c
 go_enter Tryz.func36, Tryz.ntmps36
 go_wp2_with fail
 refine (bi28 a b _).mono ?_
 rintro e w1 ⟨s, HS, rfl, hb⟩
 replace hs := hs.call hb
 clear hb
 have hrz := hs.rz
 have hbel := hs.be
 obtain ⟨x0, x1, x2, x3⟩ := row_cells4 hrz
 have fz := hrz.frozen
 go_wp2
 obtain ⟨q0, q1, q2, q3⟩ := row_cells4 (row_put4 hrz (limb s) rfl rfl rfl rfl)
 refine bodyPost_ret (v := .tuple #[wv s, .int .i64 0]) (by simp [results, Tryz.results36, go_sem, q0, q1, q2, q3]) rfl (ret2_mk (by rw [HS.out]) ?_)
 exact below_put4 hbel (by omega) _ _ _ _
theorem calc29 (a b c : Nat) (w : World) : Calls Tryz.prog 36 #[.int .u8 29, wv a, wv b, wv c] w (Ret2 w (fsar (a % M) (b % M)) 0) := by
 have hs := S4.start w a b c
 go_enter Tryz.func36, Tryz.ntmps36
 go_wp2_with fail
 refine (bi29 a b _).mono ?_
 rintro e w1 ⟨s, HS, rfl, hb⟩
 replace hs := hs.call hb
 clear hb
 have hrz := hs.rz
 have hbel := hs.be
 obtain ⟨x0, x1, x2, x3⟩ := row_cells4 hrz
 have fz := hrz.frozen
 go_wp2
 obtain ⟨q0, q1, q2, q3⟩ := row_cells4 (row_put4 hrz (limb s) rfl rfl rfl rfl)
 refine bodyPost_ret (v := .tuple #[wv s, .int .i64 0]) (by simp [results, Tryz.results36, go_sem, q0, q1, q2, q3]) rfl (ret2_mk (by rw [HS.out]) ?_)
 exact below_put4 hbel (by omega) _ _ _ _
theorem calcX (op : Nat) (ho : 30 ≤ op) (ho2 : op ≤ 255) (a b c : Nat) (w : World) : Calls Tryz.prog 36 #[.int .u8 (op : Int), wv a, wv b, wv c] w (Ret2 w (0) 1) := by
 have hs := S4.start w a b c
 go_enter Tryz.func36, Tryz.ntmps36
 go_wp2_with fail
 refine (biX op ho ho2 a b _).mono ?_
 rintro e w1 ⟨s, HS, rfl, hb⟩
 replace hs := hs.call hb
 clear hb
 have hrz := hs.rz
 have hbel := hs.be
 obtain ⟨x0, x1, x2, x3⟩ := row_cells4 hrz
 have fz := hrz.frozen
 go_wp2
 obtain ⟨q0, q1, q2, q3⟩ := row_cells4 (row_put4 hrz (limb s) rfl rfl rfl rfl)
 refine bodyPost_ret (v := .tuple #[wv s, .int .i64 1]) (by simp [results, Tryz.results36, go_sem, q0, q1, q2, q3]) rfl (ret2_mk (by rw [HS.out]) ?_)
 exact below_put4 hbel (by omega) _ _ _ _
theorem op_cases (op : Nat) : op = 0 ∨ op = 1 ∨ op = 2 ∨ op = 3 ∨ op = 4 ∨ op = 5 ∨ op = 6 ∨ op = 7 ∨ op = 8 ∨ op = 9 ∨ op = 10 ∨ op = 11 ∨ op = 12 ∨ op = 13 ∨ op = 14 ∨ op = 15 ∨ op = 16 ∨ op = 17 ∨ op = 18 ∨ op = 19 ∨ op = 20 ∨ op = 21 ∨ op = 22 ∨ op = 23 ∨ op = 24 ∨ op = 25 ∨ op = 26 ∨ op = 27 ∨ op = 28 ∨ op = 29 ∨ 30 ≤ op := by omega
theorem fcalc_out (op a b c : Nat) (h : 30 ≤ op) : fcalc op a b c = 0 := by
 unfold fcalc
 repeat rw [if_neg (by omega)]
theorem ferr_out (op : Nat) (h : 30 ≤ op) : ferr op = 1 := by unfold ferr; rw [if_neg (by omega)]
theorem calc_any (op : Nat) (ho : op ≤ 255) (a b c : Nat) (w : World) : Calls Tryz.prog 36 #[.int .u8 (op : Int), wv a, wv b, wv c] w (Ret2 w (fcalc op (a % M) (b % M) (c % M)) (ferr op)) := by
 rcases op_cases op with rfl | rfl | rfl | rfl | rfl | rfl | rfl | rfl | rfl | rfl | rfl | rfl | rfl | rfl | rfl | rfl | rfl | rfl | rfl | rfl | rfl | rfl | rfl | rfl | rfl | rfl | rfl | rfl | rfl | rfl | h
 ·rw [show fcalc 0 (a % M) (b % M) (c % M) = 0 by simp [fcalc], show ferr 0 = 1 by decide]; exact calc0 a b c w
 ·rw [show fcalc 1 (a % M) (b % M) (c % M) = fadd (a % M) (b % M) by simp [fcalc], show ferr 1 = 0 by decide]; exact calc1 a b c w
 ·rw [show fcalc 2 (a % M) (b % M) (c % M) = fmul (a % M) (b % M) by simp [fcalc], show ferr 2 = 0 by decide]; exact calc2 a b c w
 ·rw [show fcalc 3 (a % M) (b % M) (c % M) = fsub (a % M) (b % M) by simp [fcalc], show ferr 3 = 0 by decide]; exact calc3 a b c w
 ·rw [show fcalc 4 (a % M) (b % M) (c % M) = fdiv (a % M) (b % M) by simp [fcalc], show ferr 4 = 0 by decide]; exact calc4 a b c w
 ·rw [show fcalc 5 (a % M) (b % M) (c % M) = fsdiv (a % M) (b % M) by simp [fcalc], show ferr 5 = 0 by decide]; exact calc5 a b c w
 ·rw [show fcalc 6 (a % M) (b % M) (c % M) = fmod (a % M) (b % M) by simp [fcalc], show ferr 6 = 0 by decide]; exact calc6 a b c w
 ·rw [show fcalc 7 (a % M) (b % M) (c % M) = fsmod (a % M) (b % M) by simp [fcalc], show ferr 7 = 0 by decide]; exact calc7 a b c w
 ·rw [show fcalc 8 (a % M) (b % M) (c % M) = faddmod (a % M) (b % M) (c % M) by simp [fcalc], show ferr 8 = 0 by decide]; exact calc8 a b c w
 ·rw [show fcalc 9 (a % M) (b % M) (c % M) = fmulmod (a % M) (b % M) (c % M) by simp [fcalc], show ferr 9 = 0 by decide]; exact calc9 a b c w
 ·rw [show fcalc 10 (a % M) (b % M) (c % M) = fexp (a % M) (b % M) by simp [fcalc], show ferr 10 = 0 by decide]; exact calc10 a b c w
 ·rw [show fcalc 11 (a % M) (b % M) (c % M) = fsext (a % M) (b % M) by simp [fcalc], show ferr 11 = 0 by decide]; exact calc11 a b c w
 ·rw [show fcalc 12 (a % M) (b % M) (c % M) = 0 by simp [fcalc], show ferr 12 = 1 by decide]; exact calc12 a b c w
 ·rw [show fcalc 13 (a % M) (b % M) (c % M) = 0 by simp [fcalc], show ferr 13 = 1 by decide]; exact calc13 a b c w
 ·rw [show fcalc 14 (a % M) (b % M) (c % M) = 0 by simp [fcalc], show ferr 14 = 1 by decide]; exact calc14 a b c w
 ·rw [show fcalc 15 (a % M) (b % M) (c % M) = 0 by simp [fcalc], show ferr 15 = 1 by decide]; exact calc15 a b c w
 ·rw [show fcalc 16 (a % M) (b % M) (c % M) = ftruth (decide (a % M < b % M)) by simp [fcalc], show ferr 16 = 0 by decide]; exact calc16 a b c w
 ·rw [show fcalc 17 (a % M) (b % M) (c % M) = ftruth (decide (b % M < a % M)) by simp [fcalc], show ferr 17 = 0 by decide]; exact calc17 a b c w
 ·rw [show fcalc 18 (a % M) (b % M) (c % M) = ftruth (fslt (a % M) (b % M)) by simp [fcalc], show ferr 18 = 0 by decide]; exact calc18 a b c w
 ·rw [show fcalc 19 (a % M) (b % M) (c % M) = ftruth (fslt (b % M) (a % M)) by simp [fcalc], show ferr 19 = 0 by decide]; exact calc19 a b c w
 ·rw [show fcalc 20 (a % M) (b % M) (c % M) = ftruth (decide (a % M = b % M)) by simp [fcalc], show ferr 20 = 0 by decide]; exact calc20 a b c w
 ·rw [show fcalc 21 (a % M) (b % M) (c % M) = ftruth (decide (a % M = 0)) by simp [fcalc], show ferr 21 = 0 by decide]; exact calc21 a b c w
 ·rw [show fcalc 22 (a % M) (b % M) (c % M) = a % M &&& b % M by simp [fcalc], show ferr 22 = 0 by decide]; exact calc22 a b c w
 ·rw [show fcalc 23 (a % M) (b % M) (c % M) = a % M ||| b % M by simp [fcalc], show ferr 23 = 0 by decide]; exact calc23 a b c w
 ·rw [show fcalc 24 (a % M) (b % M) (c % M) = a % M ^^^ b % M by simp [fcalc], show ferr 24 = 0 by decide]; exact calc24 a b c w
 ·rw [show fcalc 25 (a % M) (b % M) (c % M) = fnot (a % M) by simp [fcalc], show ferr 25 = 0 by decide]; exact calc25 a b c w
 ·rw [show fcalc 26 (a % M) (b % M) (c % M) = fbyte (a % M) (b % M) by simp [fcalc], show ferr 26 = 0 by decide]; exact calc26 a b c w
 ·rw [show fcalc 27 (a % M) (b % M) (c % M) = fshl (a % M) (b % M) by simp [fcalc], show ferr 27 = 0 by decide]; exact calc27 a b c w
 ·rw [show fcalc 28 (a % M) (b % M) (c % M) = fshr (a % M) (b % M) by simp [fcalc], show ferr 28 = 0 by decide]; exact calc28 a b c w
 ·rw [show fcalc 29 (a % M) (b % M) (c % M) = fsar (a % M) (b % M) by simp [fcalc], show ferr 29 = 0 by decide]; exact calc29 a b c w
 ·rw [fcalc_out _ _ _ _ h, ferr_out _ h]; exact calcX op h ho a b c w
end
section
open Go.RowKit
set_option maxHeartbeats 8000000
set_option maxRecDepth 100000
theorem ksmall_any (n : Nat) (hn : n < 9223372036854775808) (w : World) : Calls Tryz.prog 12 #[.int .i64 (n : Int)] w (Ret w n) := by
 obtain ⟨g0, g1, g2, g3⟩ := small_limbs n (by omega)
 have G0 : Hid (limb n 0 = (n : Int)) := g0
 have G1 : Hid (limb n 1 = 0) := g1
 have G2 : Hid (limb n 2 = 0) := g2
 have G3 : Hid (limb n 3 = 0) := g3
 clear g0 g1 g2 g3
 go_enter Tryz.func12, Tryz.ntmps12
 go_wp2
 refine bodyPost_ret (v := wv n) (by unfold wv; rw [G0.out, G1.out, G2.out, G3.out]; simp [results, Tryz.results12, go_sem]) rfl (ret_mk rfl ?_)
 exact bal (bal (Below.refl _ _) _) _
theorem kcalc_any (op : Nat) (ho : op ≤ 255) (he : Hid (ferr op = 0)) (a b c : Nat) (w : World) : Calls Tryz.prog 14 #[.int .u8 (op : Int), wv a, wv b, wv c] w (Ret w (fcalc op (a % M) (b % M) (c % M))) := by
 have hs := S4.start w a b c
 have hc : ∀ w, Calls Tryz.prog 36 #[.int .u8 (op : Int), wv a, wv b, wv c] w (Ret2 w (fcalc op (a % M) (b % M) (c % M)) 0) := fun w => by have h := calc_any op ho a b c w; rw [he.out] at h; exact h
 have HC := hc
 have HH : Hid (∀ w, Calls Tryz.prog 36 #[.int .u8 (op : Int), wv a, wv b, wv c] w (Ret2 w (fcalc op (a % M) (b % M) (c % M)) 0)) := hc
 clear hc HC
 go_enter Tryz.func14, Tryz.ntmps14
 go_wp2_with fail
 refine (HH.out _).mono ?_
 rintro e w1 ⟨s, HS, rfl, hb⟩
 replace hs := hs.call hb
 clear hb
 have hrz := hs.rz
 have hbel := hs.be
 have z := hrz.lt
 obtain ⟨x0, x1, x2, x3⟩ := row_cells4 hrz
 have fz := hrz.frozen
 go_wp2
 obtain ⟨q0, q1, q2, q3⟩ := row_cells4 (row_put4 hrz (limb s) rfl rfl rfl rfl)
 refine bodyPost_ret (v := wv s) (by simp [results, Tryz.results14, go_sem, q0, q1, q2, q3, z]) rfl (ret_mk (by rw [HS.out]) ?_)
 exact bal (below_put4 hbel (by omega) _ _ _ _) _
end
section
variable {P : Program} {ops : Array Oper} {Q : Exit → Act → World → Prop}
theorem put_getD (s : Act) (d : Nat) (v : Value) (k : Nat) (hd : d < s.tmps.size) : (s.put (some d) v).tmps.getD k undef = if k = d then v else s.tmps.getD k undef := by
 simp only [Act.put, Array.getD_eq_getD_getElem?, Array.getElem?_setIfInBounds]
 by_cases e : d = k
 ·subst e; simp [hd]
 ·rw [if_neg e, if_neg (fun h => e h.symm)]
theorem put_size (s : Act) (d : Nat) (v : Value) : (s.put (some d) v).tmps.size = s.tmps.size := by simp [Act.put]
theorem put_defers (s : Act) (d : Nat) (v : Value) : (s.put (some d) v).defers = s.defers := rfl
def fill (a : Act) (tab : List (Nat × Value)) : Act := tab.foldl (fun s p => s.put (some p.1) p.2) a
theorem fill_size : ∀ (tab : List (Nat × Value)) (a : Act), (fill a tab).tmps.size = a.tmps.size
 | [], _ => rfl
 | p :: tab, a => by
  show (fill (a.put (some p.1) p.2) tab).tmps.size = _
  rw [fill_size tab, put_size]
theorem fill_defers : ∀ (tab : List (Nat × Value)) (a : Act), (fill a tab).defers = a.defers
 | [], _ => rfl
 | p :: tab, a => by
  show (fill (a.put (some p.1) p.2) tab).defers = _
  rw [fill_defers tab, put_defers]
theorem fill_out : ∀ (tab : List (Nat × Value)) (a : Act) (k : Nat), (∀ p ∈ tab, p.1 < a.tmps.size) → (∀ p ∈ tab, p.1 ≠ k) → (fill a tab).tmps.getD k undef = a.tmps.getD k undef
 | [], _, _, _, _ => rfl
 | p :: tab, a, k, hl, hk => by
  show (fill (a.put (some p.1) p.2) tab).tmps.getD k undef = _
  rw [fill_out tab _ k (fun q hq => by rw [put_size]; exact hl q (List.mem_cons_of_mem _ hq)) (fun q hq => hk q (List.mem_cons_of_mem _ hq)), put_getD _ _ _ _ (hl p List.mem_cons_self), if_neg (fun h => hk p List.mem_cons_self h.symm)]
theorem fill_in : ∀ (tab : List (Nat × Value)) (a : Act) (d : Nat) (v : Value), (∀ p ∈ tab, p.1 < a.tmps.size) → (tab.map Prod.fst).Nodup → (d, v) ∈ tab → (fill a tab).tmps.getD d undef = v
 | [], _, _, _, _, _, h => by cases h
 | p :: tab, a, d, v, hl, hn, h => by
  rw [List.map_cons, List.nodup_cons] at hn
  show (fill (a.put (some p.1) p.2) tab).tmps.getD d undef = _
  rcases List.mem_cons.1 h with rfl | h
  ·rw [fill_out tab _ d (fun q hq => by rw [put_size]; exact hl q (List.mem_cons_of_mem _ hq)) (fun q hq e => hn.1 (List.mem_map.2 ⟨q, hq, e⟩)), put_getD _ _ _ _ (hl _ List.mem_cons_self), if_pos rfl]
  ·exact fill_in tab _ d v (fun q hq => by rw [put_size]; exact hl q (List.mem_cons_of_mem _ hq)) hn.2 h
theorem act_ext {s t : Act} (h1 : s.tmps.size = t.tmps.size) (h2 : s.defers = t.defers) (h3 : ∀ k, k < t.tmps.size → s.tmps.getD k undef = t.tmps.getD k undef) : s = t := by
 obtain ⟨st, sd⟩ := s
 obtain ⟨tt, td⟩ := t
 simp only at h1 h2 h3
 subst h2
 congr 1
 apply Array.ext h1
 intro k hk1 hk2
 have := h3 k hk2
 simpa [Array.getD_eq_getD_getElem?, hk1, hk2] using this
end
section
open Go.RowKit
set_option maxRecDepth 100000
theorem want_none {ops : Array Oper} {o : Oper} {t : Array Value} (h : o.guard = none) : Region.wanted o (yielded ops t) = true := by unfold Region.wanted; rw [h]
theorem want_some {ops : Array Oper} {o og : Oper} {t : Array Value} {g d : Nat} (h : o.guard = some (g, true)) (hg : ops[g]? = some og) (hd : og.dst = some d) (hv : t.getD d undef = .bool true) : Region.wanted o (yielded ops t) = true := by
 unfold Region.wanted
 rw [h]
 unfold yielded
 simp only [hg, Option.bind_some, hd]
 rw [Array.getD_eq_getD_getElem?] at hv
 cases hx : t[d]? with
 | none => rw [hx] at hv; simp [undef] at hv
 | some v => rw [hx] at hv; simp only [Option.getD_some] at hv; subst hv; rfl
variable {s : Act} {x : World} {pos : String} {af : Array Edge} {g : Option (Nat × Bool)} {K : Act → World → Prop} {Q : Exit → Act → World → Prop}
theorem st_load (t d b n : Nat) (he : s.tmps.getD t undef = .pointer (some ⟨b, 0, none⟩)) (hr : x.rowIs b 24 4 (u64s (limb n))) (hK : K (s.put (some d) (wv n)) x) :
  Oper.wp Tryz.prog ⟨some d, .load 24 (.tmp t), 24, pos, af, g⟩ s x K Q := by
 obtain ⟨y0, y1, y2, y3⟩ := row_cells4 hr
 have he2 : s.eval (.tmp t) = .pointer (some ⟨b, 0, none⟩) := he
 go_simp
 exact hK
theorem st_move (t d : Nat) (v : Value) (he : s.tmps.getD t undef = v) (hK : K (s.put (some d) v) x) {ty : TypeId} :
  Oper.wp Tryz.prog ⟨some d, .move (.tmp t), ty, pos, af, g⟩ s x K Q := by
 have he2 : s.eval (.tmp t) = v := he
 go_simp
 rw [he] at *
 exact hK
theorem st_assign (t d : Nat) (v : Value) (he : s.tmps.getD t undef = v) (hK : K (s.put (some d) v) x) {ty : TypeId} :
  Oper.wp Tryz.prog ⟨some d, .assign (.tmp t), ty, pos, af, g⟩ s x K Q := by
 have he2 : s.eval (.tmp t) = v := he
 go_simp
 rw [he] at *
 exact hK
end
section
open Go.RowKit
set_option maxRecDepth 100000
end
section
open Go.RowKit
set_option maxRecDepth 100000
variable {s : Act} {x : World} {pos : String} {af : Array Edge} {g : Option (Nat × Bool)} {K : Act → World → Prop} {Q : Exit → Act → World → Prop}
end
section
open Go.RowKit
set_option maxRecDepth 100000
variable {s : Act} {x : World} {pos : String} {af : Array Edge} {g : Option (Nat × Bool)} {K : Act → World → Prop} {Q : Exit → Act → World → Prop}
end
end cin
end Go.Proofs.YtohoajjdoihekaaGreatDoor
