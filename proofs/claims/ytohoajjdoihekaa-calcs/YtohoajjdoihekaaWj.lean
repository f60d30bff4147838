/-
  The walks of package word's signed quotients and rests.
-/
import Derived.Test.YtohoajjdoihekaaWh
set_option linter.unusedVariables false
set_option linter.unusedSimpArgs false
namespace Go.Proofs.Ytohoajjdoihekaa
open Go.RowKit
namespace cin
theorem i7 {i : Nat} (h : i < 7) : i = 0 ∨ i = 1 ∨ i = 2 ∨ i = 3 ∨ i = 4 ∨ i = 5 ∨ i = 6 := by omega
theorem i5 {i : Nat} (h : i < 5) : i = 0 ∨ i = 1 ∨ i = 2 ∨ i = 3 ∨ i = 4 := by omega
theorem negative_v (a : Nat) (na : Bool) (h : Hid (neg a = na)) (w : World) : Calls Try.prog 62 #[wv a] w fun e w' => e = .returned (.bool na) ∧ Below w.heap.size w w' := by
  have := negative_any a w
  rw [h.out] at this
  exact this
def FSd (w : World) (a b ma mb qd : Nat) : Nat → Act → World → Prop
  | 0, s, _ => s.tmps.getD 6 undef = wv a
  | 1, s, _ => s.tmps.getD 7 undef = wv ma
  | 2, s, _ => s.tmps.getD 8 undef = wv b
  | 3, s, _ => s.tmps.getD 9 undef = wv mb
  | 4, s, _ => s.tmps.getD 10 undef = wv qd
  | 5, s, x => ∃ (p : Nat) (f : Nat → Int), s.tmps.getD 5 undef = .pointer (some ⟨p, 0, none⟩) ∧ x.rowIs p 24 4 (u64s f) ∧ w.heap.size + 1 + 1 < p
  | 6, s, x => ∃ p : Nat, s.tmps.getD 5 undef = .pointer (some ⟨p, 0, none⟩) ∧ x.rowIs p 24 4 (u64s (limb qd)) ∧ w.heap.size + 1 + 1 < p
  | _, _, _ => True
theorem FSd_big (w : World) (a b ma mb qd : Nat) (j : Nat) (h : 7 ≤ j) (s : Act) (x : World) : FSd w a b ma mb qd j s x := by
  match j, h with
  | j + 7, _ => trivial
def GSd (w : World) (a b : Nat) (s : Act) (x : World) : Prop := ∃ s5 s6 s7 s8 s9 s10 : Value,
  s = ⟨#[wv a, wv b, .pointer (some ⟨w.heap.size, 0, none⟩), .pointer (some ⟨w.heap.size + 1, 0, none⟩), .pointer (some ⟨w.heap.size + 1 + 1, 0, none⟩), s5, s6, s7, s8, s9, s10, undef, undef, undef, undef, undef, undef, undef, undef], []⟩ ∧ SS w a b x
def FSm (w : World) (a b ma mb qd : Nat) : Nat → Act → World → Prop
  | 0, s, _ => s.tmps.getD 6 undef = wv a
  | 1, s, _ => s.tmps.getD 7 undef = wv ma
  | 2, s, _ => s.tmps.getD 8 undef = wv b
  | 3, s, _ => s.tmps.getD 9 undef = wv mb
  | 4, s, _ => s.tmps.getD 10 undef = wv qd
  | 5, s, x => ∃ (p : Nat) (f : Nat → Int), s.tmps.getD 5 undef = .pointer (some ⟨p, 0, none⟩) ∧ x.rowIs p 24 4 (u64s f) ∧ w.heap.size + 1 + 1 < p
  | 6, s, x => ∃ p : Nat, s.tmps.getD 5 undef = .pointer (some ⟨p, 0, none⟩) ∧ x.rowIs p 24 4 (u64s (limb qd)) ∧ w.heap.size + 1 + 1 < p
  | _, _, _ => True
theorem FSm_big (w : World) (a b ma mb qd : Nat) (j : Nat) (h : 7 ≤ j) (s : Act) (x : World) : FSm w a b ma mb qd j s x := by
  match j, h with
  | j + 7, _ => trivial
def GSm (w : World) (a b : Nat) (s : Act) (x : World) : Prop := ∃ s5 s6 s7 s8 s9 s10 : Value,
  s = ⟨#[wv a, wv b, .pointer (some ⟨w.heap.size, 0, none⟩), .pointer (some ⟨w.heap.size + 1, 0, none⟩), .pointer (some ⟨w.heap.size + 1 + 1, 0, none⟩), s5, s6, s7, s8, s9, s10, undef, undef, undef, undef, undef], []⟩ ∧ SS w a b x
def FSg (a b : Nat) (na nb : Bool) : Nat → Act → World → Prop
  | 0, s, _ => s.tmps.getD 11 undef = wv a
  | 1, s, _ => s.tmps.getD 12 undef = .bool na
  | 2, s, _ => s.tmps.getD 13 undef = wv b
  | 3, s, _ => s.tmps.getD 14 undef = .bool nb
  | 4, s, _ => s.tmps.getD 15 undef = .bool (na != nb)
  | _, _, _ => True
theorem FSg_big (a b : Nat) (na nb : Bool) (j : Nat) (h : 5 ≤ j) (s : Act) (x : World) : FSg a b na nb j s x := by
  match j, h with
  | j + 5, _ => trivial
def GSg (w : World) (a b p qd : Nat) (v6 v7 v8 v9 v10 : Value) (s : Act) (x : World) : Prop := ∃ s11 s12 s13 s14 s15 : Value,
  s = ⟨#[wv a, wv b, .pointer (some ⟨w.heap.size, 0, none⟩), .pointer (some ⟨w.heap.size + 1, 0, none⟩), .pointer (some ⟨w.heap.size + 1 + 1, 0, none⟩), .pointer (some ⟨p, 0, none⟩), v6, v7, v8, v9, v10, s11, s12, s13, s14, s15, undef, undef, undef], []⟩ ∧ (SS w a b x ∧ x.rowIs p 24 4 (u64s (limb qd)))
theorem sdiv_rel {a b ma mb qd : Nat} (h1 : ma = fmag (a % M)) (h2 : mb = fmag (b % M)) (h3 : qd = fdiv (ma % M) (mb % M)) : fdiv (fmag (a % M)) (fmag (b % M)) = qd := by
  rw [h3, h1, h2, Nat.mod_eq_of_lt (fmag_lt _ (Nat.mod_lt _ Mpos)), Nat.mod_eq_of_lt (fmag_lt _ (Nat.mod_lt _ Mpos))]
theorem smod_rel {a b ma mb qd : Nat} (h1 : ma = fmag (a % M)) (h2 : mb = fmag (b % M)) (h3 : qd = fmod (ma % M) (mb % M)) : fmod (fmag (a % M)) (fmag (b % M)) = qd := by
  rw [h3, h1, h2, Nat.mod_eq_of_lt (fmag_lt _ (Nat.mod_lt _ Mpos)), Nat.mod_eq_of_lt (fmag_lt _ (Nat.mod_lt _ Mpos))]
theorem sdiv_neg {a b qd s : Nat} (h : fdiv (fmag (a % M)) (fmag (b % M)) = qd) (hn : (neg a != neg b) = true) (hs : s = fneg (qd % M)) (hq : qd < M) : s % M = fsdiv (a % M) (b % M) % M := by
  unfold fsdiv; rw [neg_mod, neg_mod, hn, if_pos rfl, h, hs, Nat.mod_eq_of_lt hq]
theorem sdiv_pos {a b qd : Nat} (h : fdiv (fmag (a % M)) (fmag (b % M)) = qd) (hn : (neg a != neg b) = false) : qd % M = fsdiv (a % M) (b % M) % M := by
  unfold fsdiv; rw [neg_mod, neg_mod, hn, if_neg (by decide), h]
theorem smod_neg {a b qd s : Nat} (h : fmod (fmag (a % M)) (fmag (b % M)) = qd) (hn : neg a = true) (hs : s = fneg (qd % M)) (hq : qd < M) : s % M = fsmod (a % M) (b % M) % M := by
  unfold fsmod; rw [neg_mod, hn, if_pos rfl, h, hs, Nat.mod_eq_of_lt hq]
theorem smod_pos {a b qd : Nat} (h : fmod (fmag (a % M)) (fmag (b % M)) = qd) (hn : neg a = false) : qd % M = fsmod (a % M) (b % M) % M := by
  unfold fsmod; rw [neg_mod, hn, if_neg (by decide), h]
set_option maxRecDepth 100000 in
set_option maxHeartbeats 4000000 in
theorem sdiv_any (a b : Nat) (w : World) : Calls Try.prog 31 #[wv a, wv b] w (Ret w (fsdiv (a % M) (b % M))) := by
  obtain ⟨ma, HMA⟩ : ∃ ma, Hid (ma = fmag (a % M)) := ⟨_, rfl⟩
  obtain ⟨mb, HMB⟩ : ∃ mb, Hid (mb = fmag (b % M)) := ⟨_, rfl⟩
  obtain ⟨qd, HQD⟩ : ∃ qd, Hid (qd = fdiv (ma % M) (mb % M)) := ⟨_, rfl⟩
  obtain ⟨na, HNA⟩ : ∃ na, Hid (neg a = na) := ⟨_, rfl⟩
  obtain ⟨nb, HNB⟩ : ∃ nb, Hid (neg b = nb) := ⟨_, rfl⟩
  have hS := SS.start w a b
  go_enter Try.func31, Try.ntmps31
  go_wp2
  refine wp_region_inv (by kernel_rfl) (GSd w a b) (FSd w a b ma mb qd) (hall_of (by kernel_rfl)) ?_ ?_ ?_
  · exact ⟨_, _, _, _, _, _, rfl, hS.drew⟩
  · intro i o ho s x hG hdep
    clear hS
    obtain ⟨s5, s6, s7, s8, s9, s10, rfl, hs⟩ := hG
    have hi : i < 7 := (Array.getElem?_eq_some_iff.1 ho).1
    rcases i7 hi with rfl | rfl | rfl | rfl | rfl | rfl | rfl
    · obtain rfl := Option.some.inj (show some _ = some o from ho)
      refine wpOp_step rfl fun K hK => ?_
      obtain ⟨y0, y1, y2, y3⟩ := row_cells4 hs.ra
      go_simp
      refine hK _ _ ⟨⟨_, _, _, _, _, _, rfl, hs⟩, rfl, fun j hj hd hF => ?_⟩
      rcases Nat.lt_or_ge j 7 with hjn | hjn
      · rcases i7 hjn with rfl | rfl | rfl | rfl | rfl | rfl | rfl
        · exact absurd rfl hj
        · exfalso; revert hd; exact of_decide_eq_true (by kernel_rfl)
        · have h : s8 = wv b := hF; exact h
        · have h : s9 = wv mb := hF; exact h
        · have h : s10 = wv qd := hF; exact h
        · obtain ⟨p, f, h1, h2, h3⟩ := hF; exact ⟨p, f, h1, h2, h3⟩
        · obtain ⟨p, h1, h2, h3⟩ := hF; exact ⟨p, h1, h2, h3⟩
      · exact FSd_big _ _ _ _ _ _ _ hjn _ _
    · obtain rfl := Option.some.inj (show some _ = some o from ho)
      refine wpOp_step rfl fun K hK => ?_
      have h0 : s6 = wv a := hdep ⟨0, .data⟩ (by simp) rfl
      subst h0
      go_simp
      refine (magnitude_any a _).mono ?_
      rintro e y ⟨rr, HRR, rfl, hb⟩
      obtain rfl : rr = ma := HRR.out.trans HMA.out.symm
      dsimp only
      refine hK _ _ ⟨⟨_, _, _, _, _, _, rfl, hs.call hb⟩, rfl, fun j hj hd hF => ?_⟩
      rcases Nat.lt_or_ge j 7 with hjn | hjn
      · rcases i7 hjn with rfl | rfl | rfl | rfl | rfl | rfl | rfl
        · exact (rfl : (wv a : Value) = wv a)
        · exact absurd rfl hj
        · have h : s8 = wv b := hF; exact h
        · have h : s9 = wv mb := hF; exact h
        · exfalso; revert hd; exact of_decide_eq_true (by kernel_rfl)
        · obtain ⟨p, f, h1, h2, h3⟩ := hF; exact ⟨p, f, h1, row_below h2 hb, h3⟩
        · obtain ⟨p, h1, h2, h3⟩ := hF; exact ⟨p, h1, row_below h2 hb, h3⟩
      · exact FSd_big _ _ _ _ _ _ _ hjn _ _
    · obtain rfl := Option.some.inj (show some _ = some o from ho)
      refine wpOp_step rfl fun K hK => ?_
      obtain ⟨y0, y1, y2, y3⟩ := row_cells4 hs.rb
      go_simp
      refine hK _ _ ⟨⟨_, _, _, _, _, _, rfl, hs⟩, rfl, fun j hj hd hF => ?_⟩
      rcases Nat.lt_or_ge j 7 with hjn | hjn
      · rcases i7 hjn with rfl | rfl | rfl | rfl | rfl | rfl | rfl
        · have h : s6 = wv a := hF; exact h
        · have h : s7 = wv ma := hF; exact h
        · exact absurd rfl hj
        · exfalso; revert hd; exact of_decide_eq_true (by kernel_rfl)
        · have h : s10 = wv qd := hF; exact h
        · obtain ⟨p, f, h1, h2, h3⟩ := hF; exact ⟨p, f, h1, h2, h3⟩
        · obtain ⟨p, h1, h2, h3⟩ := hF; exact ⟨p, h1, h2, h3⟩
      · exact FSd_big _ _ _ _ _ _ _ hjn _ _
    · obtain rfl := Option.some.inj (show some _ = some o from ho)
      refine wpOp_step rfl fun K hK => ?_
      have h2 : s8 = wv b := hdep ⟨2, .data⟩ (by simp) rfl
      subst h2
      go_simp
      refine (magnitude_any b _).mono ?_
      rintro e y ⟨rr, HRR, rfl, hb⟩
      obtain rfl : rr = mb := HRR.out.trans HMB.out.symm
      dsimp only
      refine hK _ _ ⟨⟨_, _, _, _, _, _, rfl, hs.call hb⟩, rfl, fun j hj hd hF => ?_⟩
      rcases Nat.lt_or_ge j 7 with hjn | hjn
      · rcases i7 hjn with rfl | rfl | rfl | rfl | rfl | rfl | rfl
        · have h : s6 = wv a := hF; exact h
        · have h : s7 = wv ma := hF; exact h
        · exact (rfl : (wv b : Value) = wv b)
        · exact absurd rfl hj
        · exfalso; revert hd; exact of_decide_eq_true (by kernel_rfl)
        · obtain ⟨p, f, h1, h2, h3⟩ := hF; exact ⟨p, f, h1, row_below h2 hb, h3⟩
        · obtain ⟨p, h1, h2, h3⟩ := hF; exact ⟨p, h1, row_below h2 hb, h3⟩
      · exact FSd_big _ _ _ _ _ _ _ hjn _ _
    · obtain rfl := Option.some.inj (show some _ = some o from ho)
      refine wpOp_step rfl fun K hK => ?_
      have h1 : s7 = wv ma := hdep ⟨1, .data⟩ (by simp) rfl
      subst h1
      have h3 : s9 = wv mb := hdep ⟨3, .data⟩ (by simp) rfl
      subst h3
      go_simp
      refine (div_any ma mb _).mono ?_
      rintro e y ⟨rr, HRR, rfl, hb⟩
      obtain rfl : rr = qd := HRR.out.trans HQD.out.symm
      dsimp only
      refine hK _ _ ⟨⟨_, _, _, _, _, _, rfl, hs.call hb⟩, rfl, fun j hj hd hF => ?_⟩
      rcases Nat.lt_or_ge j 7 with hjn | hjn
      · rcases i7 hjn with rfl | rfl | rfl | rfl | rfl | rfl | rfl
        · have h : s6 = wv a := hF; exact h
        · exact (rfl : (wv ma : Value) = wv ma)
        · have h : s8 = wv b := hF; exact h
        · exact (rfl : (wv mb : Value) = wv mb)
        · exact absurd rfl hj
        · obtain ⟨p, f, h1, h2, h3⟩ := hF; exact ⟨p, f, h1, row_below h2 hb, h3⟩
        · exfalso; revert hd; exact of_decide_eq_true (by kernel_rfl)
      · exact FSd_big _ _ _ _ _ _ _ hjn _ _
    · obtain rfl := Option.some.inj (show some _ = some o from ho)
      refine wpOp_step rfl fun K hK => ?_
      have zz := hs.rz.lt
      go_simp
      refine hK _ _ ⟨⟨_, _, _, _, _, _, rfl, hs.alloc _⟩, ⟨_, fun _ => 0, rfl, row_lit4 _ rfl rfl rfl rfl rfl, zz⟩, fun j hj hd hF => ?_⟩
      rcases Nat.lt_or_ge j 7 with hjn | hjn
      · rcases i7 hjn with rfl | rfl | rfl | rfl | rfl | rfl | rfl
        · have h : s6 = wv a := hF; exact h
        · have h : s7 = wv ma := hF; exact h
        · have h : s8 = wv b := hF; exact h
        · have h : s9 = wv mb := hF; exact h
        · have h : s10 = wv qd := hF; exact h
        · exact absurd rfl hj
        · exfalso; revert hd; exact of_decide_eq_true (by kernel_rfl)
      · exact FSd_big _ _ _ _ _ _ _ hjn _ _
    · obtain rfl := Option.some.inj (show some _ = some o from ho)
      refine wpOp_step rfl fun K hK => ?_
      have h5 : ∃ (p : Nat) (f : Nat → Int), s5 = .pointer (some ⟨p, 0, none⟩) ∧ x.rowIs p 24 4 (u64s f) ∧ w.heap.size + 1 + 1 < p := hdep ⟨5, .data⟩ (by simp) rfl
      have h4 : s10 = wv qd := hdep ⟨4, .data⟩ (by simp) rfl
      subst h4
      obtain ⟨p5, f5, rfl, hr5, hl5⟩ := h5
      obtain ⟨y0, y1, y2, y3⟩ := row_cells4 hr5
      have fz := hr5.frozen
      go_simp
      refine hK _ _ ⟨⟨_, _, _, _, _, _, rfl, ((((hs.set hl5 _).set hl5 _).set hl5 _).set hl5 _)⟩, ⟨p5, rfl, row_put4 hr5 (limb qd) rfl rfl rfl rfl, hl5⟩, fun j hj hd hF => ?_⟩
      rcases Nat.lt_or_ge j 7 with hjn | hjn
      · rcases i7 hjn with rfl | rfl | rfl | rfl | rfl | rfl | rfl
        · have h : s6 = wv a := hF; exact h
        · have h : s7 = wv ma := hF; exact h
        · have h : s8 = wv b := hF; exact h
        · have h : s9 = wv mb := hF; exact h
        · exact (rfl : (wv qd : Value) = wv qd)
        · exact ⟨p5, limb qd, rfl, row_put4 hr5 (limb qd) rfl rfl rfl rfl, hl5⟩
        · exact absurd rfl hj
      · exact FSd_big _ _ _ _ _ _ _ hjn _ _
  · intro s x hG hF
    clear hS
    obtain ⟨s5, s6, s7, s8, s9, s10, rfl, hs⟩ := hG
    obtain ⟨p, rfl, hr, hl⟩ : ∃ p : Nat, s5 = .pointer (some ⟨p, 0, none⟩) ∧ x.rowIs p 24 4 (u64s (limb qd)) ∧ w.heap.size + 1 + 1 < p := hF 6 (by decide)
    clear hF
    go_wp2
    refine wp_region_inv (by kernel_rfl) (GSg w a b p qd s6 s7 s8 s9 s10) (FSg a b na nb) (hall_of (by kernel_rfl)) ?_ ?_ ?_
    · exact ⟨_, _, _, _, _, rfl, ⟨hs.drew, hr.drew⟩⟩
    · intro i o ho s x hG hdep
      obtain ⟨s11, s12, s13, s14, s15, rfl, hs⟩ := hG
      have hi : i < 5 := (Array.getElem?_eq_some_iff.1 ho).1
      rcases i5 hi with rfl | rfl | rfl | rfl | rfl
      · obtain rfl := Option.some.inj (show some _ = some o from ho)
        refine wpOp_step rfl fun K hK => ?_
        obtain ⟨y0, y1, y2, y3⟩ := row_cells4 hs.1.ra
        go_simp
        refine hK _ _ ⟨⟨_, _, _, _, _, rfl, hs⟩, rfl, fun j hj hd hF => ?_⟩
        rcases Nat.lt_or_ge j 5 with hjn | hjn
        · rcases i5 hjn with rfl | rfl | rfl | rfl | rfl
          · exact absurd rfl hj
          · exfalso; revert hd; exact of_decide_eq_true (by kernel_rfl)
          · have h : s13 = wv b := hF; exact h
          · have h : s14 = .bool nb := hF; exact h
          · have h : s15 = .bool (na != nb) := hF; exact h
        · exact FSg_big _ _ _ _ _ hjn _ _
      · obtain rfl := Option.some.inj (show some _ = some o from ho)
        refine wpOp_step rfl fun K hK => ?_
        have h0 : s11 = wv a := hdep ⟨0, .data⟩ (by simp) rfl
        subst h0
        go_simp
        refine (negative_v a na HNA _).mono ?_
        rintro e y ⟨rfl, hb⟩
        dsimp only
        refine hK _ _ ⟨⟨_, _, _, _, _, rfl, ⟨hs.1.call hb, row_below hs.2 hb⟩⟩, rfl, fun j hj hd hF => ?_⟩
        rcases Nat.lt_or_ge j 5 with hjn | hjn
        · rcases i5 hjn with rfl | rfl | rfl | rfl | rfl
          · exact (rfl : (wv a : Value) = wv a)
          · exact absurd rfl hj
          · have h : s13 = wv b := hF; exact h
          · have h : s14 = .bool nb := hF; exact h
          · exfalso; revert hd; exact of_decide_eq_true (by kernel_rfl)
        · exact FSg_big _ _ _ _ _ hjn _ _
      · obtain rfl := Option.some.inj (show some _ = some o from ho)
        refine wpOp_step rfl fun K hK => ?_
        obtain ⟨y0, y1, y2, y3⟩ := row_cells4 hs.1.rb
        go_simp
        refine hK _ _ ⟨⟨_, _, _, _, _, rfl, hs⟩, rfl, fun j hj hd hF => ?_⟩
        rcases Nat.lt_or_ge j 5 with hjn | hjn
        · rcases i5 hjn with rfl | rfl | rfl | rfl | rfl
          · have h : s11 = wv a := hF; exact h
          · have h : s12 = .bool na := hF; exact h
          · exact absurd rfl hj
          · exfalso; revert hd; exact of_decide_eq_true (by kernel_rfl)
          · have h : s15 = .bool (na != nb) := hF; exact h
        · exact FSg_big _ _ _ _ _ hjn _ _
      · obtain rfl := Option.some.inj (show some _ = some o from ho)
        refine wpOp_step rfl fun K hK => ?_
        have h2 : s13 = wv b := hdep ⟨2, .data⟩ (by simp) rfl
        subst h2
        go_simp
        refine (negative_v b nb HNB _).mono ?_
        rintro e y ⟨rfl, hb⟩
        dsimp only
        refine hK _ _ ⟨⟨_, _, _, _, _, rfl, ⟨hs.1.call hb, row_below hs.2 hb⟩⟩, rfl, fun j hj hd hF => ?_⟩
        rcases Nat.lt_or_ge j 5 with hjn | hjn
        · rcases i5 hjn with rfl | rfl | rfl | rfl | rfl
          · have h : s11 = wv a := hF; exact h
          · have h : s12 = .bool na := hF; exact h
          · exact (rfl : (wv b : Value) = wv b)
          · exact absurd rfl hj
          · exfalso; revert hd; exact of_decide_eq_true (by kernel_rfl)
        · exact FSg_big _ _ _ _ _ hjn _ _
      · obtain rfl := Option.some.inj (show some _ = some o from ho)
        refine wpOp_step rfl fun K hK => ?_
        have h1 : s12 = .bool na := hdep ⟨1, .data⟩ (by simp) rfl
        subst h1
        have h3 : s14 = .bool nb := hdep ⟨3, .data⟩ (by simp) rfl
        subst h3
        go_simp
        refine hK _ _ ⟨⟨_, _, _, _, _, rfl, hs⟩, rfl, fun j hj hd hF => ?_⟩
        rcases Nat.lt_or_ge j 5 with hjn | hjn
        · rcases i5 hjn with rfl | rfl | rfl | rfl | rfl
          · have h : s11 = wv a := hF; exact h
          · exact (rfl : (.bool na : Value) = .bool na)
          · have h : s13 = wv b := hF; exact h
          · exact (rfl : (.bool nb : Value) = .bool nb)
          · exact absurd rfl hj
        · exact FSg_big _ _ _ _ _ hjn _ _
    · intro s x hG hF
      obtain ⟨s11, s12, s13, s14, s15, rfl, hs⟩ := hG
      have h4 : s15 = .bool (na != nb) := hF 4 (by decide)
      clear hF hr
      obtain ⟨hs, hr⟩ := hs
      subst h4
      cases na <;> cases nb
      · skip
        obtain ⟨y0, y1, y2, y3⟩ := row_cells4 hr
        have hrz := hs.rz
        have hbel := hs.be
        have z' := hbel.size
        obtain ⟨x0, x1, x2, x3⟩ := row_cells4 hrz
        have fz := hrz.frozen
        go_wp2
        obtain ⟨q0, q1, q2, q3⟩ := row_cells4 (row_put4 hrz (limb qd) rfl rfl rfl rfl)
        refine bodyPost_ret (v := wv qd) (by simp [results, Try.results31, go_sem, q0, q1, q2, q3]) rfl (ret_mk (sdiv_pos (sdiv_rel HMA.out HMB.out HQD.out) (by rw [HNA.out, HNB.out]; rfl)) ?_)
        exact below_put4 hbel (by omega) _ _ _ _
      · skip
        obtain ⟨y0, y1, y2, y3⟩ := row_cells4 hr
        go_wp2_with fail
        refine (negate_any qd _).mono ?_
        rintro e w2 ⟨s, HSN, rfl, hb⟩
        have hrz := row_below hs.rz hb
        have hbel := bcall hs.be hb
        have z' := hbel.size
        obtain ⟨x0, x1, x2, x3⟩ := row_cells4 hrz
        have fz := hrz.frozen
        clear hb
        go_wp2
        obtain ⟨q0, q1, q2, q3⟩ := row_cells4 (row_put4 hrz (limb s) rfl rfl rfl rfl)
        refine bodyPost_ret (v := wv s) (by simp [results, Try.results31, go_sem, q0, q1, q2, q3]) rfl (ret_mk (sdiv_neg (sdiv_rel HMA.out HMB.out HQD.out) (by rw [HNA.out, HNB.out]; rfl) HSN.out (by rw [HQD.out]; exact fdiv_lt _ _ (Nat.mod_lt _ Mpos))) ?_)
        exact below_put4 hbel (by omega) _ _ _ _
      · skip
        obtain ⟨y0, y1, y2, y3⟩ := row_cells4 hr
        go_wp2_with fail
        refine (negate_any qd _).mono ?_
        rintro e w2 ⟨s, HSN, rfl, hb⟩
        have hrz := row_below hs.rz hb
        have hbel := bcall hs.be hb
        have z' := hbel.size
        obtain ⟨x0, x1, x2, x3⟩ := row_cells4 hrz
        have fz := hrz.frozen
        clear hb
        go_wp2
        obtain ⟨q0, q1, q2, q3⟩ := row_cells4 (row_put4 hrz (limb s) rfl rfl rfl rfl)
        refine bodyPost_ret (v := wv s) (by simp [results, Try.results31, go_sem, q0, q1, q2, q3]) rfl (ret_mk (sdiv_neg (sdiv_rel HMA.out HMB.out HQD.out) (by rw [HNA.out, HNB.out]; rfl) HSN.out (by rw [HQD.out]; exact fdiv_lt _ _ (Nat.mod_lt _ Mpos))) ?_)
        exact below_put4 hbel (by omega) _ _ _ _
      · skip
        obtain ⟨y0, y1, y2, y3⟩ := row_cells4 hr
        have hrz := hs.rz
        have hbel := hs.be
        have z' := hbel.size
        obtain ⟨x0, x1, x2, x3⟩ := row_cells4 hrz
        have fz := hrz.frozen
        go_wp2
        obtain ⟨q0, q1, q2, q3⟩ := row_cells4 (row_put4 hrz (limb qd) rfl rfl rfl rfl)
        refine bodyPost_ret (v := wv qd) (by simp [results, Try.results31, go_sem, q0, q1, q2, q3]) rfl (ret_mk (sdiv_pos (sdiv_rel HMA.out HMB.out HQD.out) (by rw [HNA.out, HNB.out]; rfl)) ?_)
        exact below_put4 hbel (by omega) _ _ _ _
set_option maxRecDepth 100000 in
set_option maxHeartbeats 4000000 in
theorem smod_any (a b : Nat) (w : World) : Calls Try.prog 33 #[wv a, wv b] w (Ret w (fsmod (a % M) (b % M))) := by
  obtain ⟨ma, HMA⟩ : ∃ ma, Hid (ma = fmag (a % M)) := ⟨_, rfl⟩
  obtain ⟨mb, HMB⟩ : ∃ mb, Hid (mb = fmag (b % M)) := ⟨_, rfl⟩
  obtain ⟨qd, HQD⟩ : ∃ qd, Hid (qd = fmod (ma % M) (mb % M)) := ⟨_, rfl⟩
  obtain ⟨na, HNA⟩ : ∃ na, Hid (neg a = na) := ⟨_, rfl⟩
  have hS := SS.start w a b
  go_enter Try.func33, Try.ntmps33
  go_wp2
  refine wp_region_inv (by kernel_rfl) (GSm w a b) (FSm w a b ma mb qd) (hall_of (by kernel_rfl)) ?_ ?_ ?_
  · exact ⟨_, _, _, _, _, _, rfl, hS.drew⟩
  · intro i o ho s x hG hdep
    clear hS
    obtain ⟨s5, s6, s7, s8, s9, s10, rfl, hs⟩ := hG
    have hi : i < 7 := (Array.getElem?_eq_some_iff.1 ho).1
    rcases i7 hi with rfl | rfl | rfl | rfl | rfl | rfl | rfl
    · obtain rfl := Option.some.inj (show some _ = some o from ho)
      refine wpOp_step rfl fun K hK => ?_
      obtain ⟨y0, y1, y2, y3⟩ := row_cells4 hs.ra
      go_simp
      refine hK _ _ ⟨⟨_, _, _, _, _, _, rfl, hs⟩, rfl, fun j hj hd hF => ?_⟩
      rcases Nat.lt_or_ge j 7 with hjn | hjn
      · rcases i7 hjn with rfl | rfl | rfl | rfl | rfl | rfl | rfl
        · exact absurd rfl hj
        · exfalso; revert hd; exact of_decide_eq_true (by kernel_rfl)
        · have h : s8 = wv b := hF; exact h
        · have h : s9 = wv mb := hF; exact h
        · have h : s10 = wv qd := hF; exact h
        · obtain ⟨p, f, h1, h2, h3⟩ := hF; exact ⟨p, f, h1, h2, h3⟩
        · obtain ⟨p, h1, h2, h3⟩ := hF; exact ⟨p, h1, h2, h3⟩
      · exact FSm_big _ _ _ _ _ _ _ hjn _ _
    · obtain rfl := Option.some.inj (show some _ = some o from ho)
      refine wpOp_step rfl fun K hK => ?_
      have h0 : s6 = wv a := hdep ⟨0, .data⟩ (by simp) rfl
      subst h0
      go_simp
      refine (magnitude_any a _).mono ?_
      rintro e y ⟨rr, HRR, rfl, hb⟩
      obtain rfl : rr = ma := HRR.out.trans HMA.out.symm
      dsimp only
      refine hK _ _ ⟨⟨_, _, _, _, _, _, rfl, hs.call hb⟩, rfl, fun j hj hd hF => ?_⟩
      rcases Nat.lt_or_ge j 7 with hjn | hjn
      · rcases i7 hjn with rfl | rfl | rfl | rfl | rfl | rfl | rfl
        · exact (rfl : (wv a : Value) = wv a)
        · exact absurd rfl hj
        · have h : s8 = wv b := hF; exact h
        · have h : s9 = wv mb := hF; exact h
        · exfalso; revert hd; exact of_decide_eq_true (by kernel_rfl)
        · obtain ⟨p, f, h1, h2, h3⟩ := hF; exact ⟨p, f, h1, row_below h2 hb, h3⟩
        · obtain ⟨p, h1, h2, h3⟩ := hF; exact ⟨p, h1, row_below h2 hb, h3⟩
      · exact FSm_big _ _ _ _ _ _ _ hjn _ _
    · obtain rfl := Option.some.inj (show some _ = some o from ho)
      refine wpOp_step rfl fun K hK => ?_
      obtain ⟨y0, y1, y2, y3⟩ := row_cells4 hs.rb
      go_simp
      refine hK _ _ ⟨⟨_, _, _, _, _, _, rfl, hs⟩, rfl, fun j hj hd hF => ?_⟩
      rcases Nat.lt_or_ge j 7 with hjn | hjn
      · rcases i7 hjn with rfl | rfl | rfl | rfl | rfl | rfl | rfl
        · have h : s6 = wv a := hF; exact h
        · have h : s7 = wv ma := hF; exact h
        · exact absurd rfl hj
        · exfalso; revert hd; exact of_decide_eq_true (by kernel_rfl)
        · have h : s10 = wv qd := hF; exact h
        · obtain ⟨p, f, h1, h2, h3⟩ := hF; exact ⟨p, f, h1, h2, h3⟩
        · obtain ⟨p, h1, h2, h3⟩ := hF; exact ⟨p, h1, h2, h3⟩
      · exact FSm_big _ _ _ _ _ _ _ hjn _ _
    · obtain rfl := Option.some.inj (show some _ = some o from ho)
      refine wpOp_step rfl fun K hK => ?_
      have h2 : s8 = wv b := hdep ⟨2, .data⟩ (by simp) rfl
      subst h2
      go_simp
      refine (magnitude_any b _).mono ?_
      rintro e y ⟨rr, HRR, rfl, hb⟩
      obtain rfl : rr = mb := HRR.out.trans HMB.out.symm
      dsimp only
      refine hK _ _ ⟨⟨_, _, _, _, _, _, rfl, hs.call hb⟩, rfl, fun j hj hd hF => ?_⟩
      rcases Nat.lt_or_ge j 7 with hjn | hjn
      · rcases i7 hjn with rfl | rfl | rfl | rfl | rfl | rfl | rfl
        · have h : s6 = wv a := hF; exact h
        · have h : s7 = wv ma := hF; exact h
        · exact (rfl : (wv b : Value) = wv b)
        · exact absurd rfl hj
        · exfalso; revert hd; exact of_decide_eq_true (by kernel_rfl)
        · obtain ⟨p, f, h1, h2, h3⟩ := hF; exact ⟨p, f, h1, row_below h2 hb, h3⟩
        · obtain ⟨p, h1, h2, h3⟩ := hF; exact ⟨p, h1, row_below h2 hb, h3⟩
      · exact FSm_big _ _ _ _ _ _ _ hjn _ _
    · obtain rfl := Option.some.inj (show some _ = some o from ho)
      refine wpOp_step rfl fun K hK => ?_
      have h1 : s7 = wv ma := hdep ⟨1, .data⟩ (by simp) rfl
      subst h1
      have h3 : s9 = wv mb := hdep ⟨3, .data⟩ (by simp) rfl
      subst h3
      go_simp
      refine (mod_any ma mb _).mono ?_
      rintro e y ⟨rr, HRR, rfl, hb⟩
      obtain rfl : rr = qd := HRR.out.trans HQD.out.symm
      dsimp only
      refine hK _ _ ⟨⟨_, _, _, _, _, _, rfl, hs.call hb⟩, rfl, fun j hj hd hF => ?_⟩
      rcases Nat.lt_or_ge j 7 with hjn | hjn
      · rcases i7 hjn with rfl | rfl | rfl | rfl | rfl | rfl | rfl
        · have h : s6 = wv a := hF; exact h
        · exact (rfl : (wv ma : Value) = wv ma)
        · have h : s8 = wv b := hF; exact h
        · exact (rfl : (wv mb : Value) = wv mb)
        · exact absurd rfl hj
        · obtain ⟨p, f, h1, h2, h3⟩ := hF; exact ⟨p, f, h1, row_below h2 hb, h3⟩
        · exfalso; revert hd; exact of_decide_eq_true (by kernel_rfl)
      · exact FSm_big _ _ _ _ _ _ _ hjn _ _
    · obtain rfl := Option.some.inj (show some _ = some o from ho)
      refine wpOp_step rfl fun K hK => ?_
      have zz := hs.rz.lt
      go_simp
      refine hK _ _ ⟨⟨_, _, _, _, _, _, rfl, hs.alloc _⟩, ⟨_, fun _ => 0, rfl, row_lit4 _ rfl rfl rfl rfl rfl, zz⟩, fun j hj hd hF => ?_⟩
      rcases Nat.lt_or_ge j 7 with hjn | hjn
      · rcases i7 hjn with rfl | rfl | rfl | rfl | rfl | rfl | rfl
        · have h : s6 = wv a := hF; exact h
        · have h : s7 = wv ma := hF; exact h
        · have h : s8 = wv b := hF; exact h
        · have h : s9 = wv mb := hF; exact h
        · have h : s10 = wv qd := hF; exact h
        · exact absurd rfl hj
        · exfalso; revert hd; exact of_decide_eq_true (by kernel_rfl)
      · exact FSm_big _ _ _ _ _ _ _ hjn _ _
    · obtain rfl := Option.some.inj (show some _ = some o from ho)
      refine wpOp_step rfl fun K hK => ?_
      have h5 : ∃ (p : Nat) (f : Nat → Int), s5 = .pointer (some ⟨p, 0, none⟩) ∧ x.rowIs p 24 4 (u64s f) ∧ w.heap.size + 1 + 1 < p := hdep ⟨5, .data⟩ (by simp) rfl
      have h4 : s10 = wv qd := hdep ⟨4, .data⟩ (by simp) rfl
      subst h4
      obtain ⟨p5, f5, rfl, hr5, hl5⟩ := h5
      obtain ⟨y0, y1, y2, y3⟩ := row_cells4 hr5
      have fz := hr5.frozen
      go_simp
      refine hK _ _ ⟨⟨_, _, _, _, _, _, rfl, ((((hs.set hl5 _).set hl5 _).set hl5 _).set hl5 _)⟩, ⟨p5, rfl, row_put4 hr5 (limb qd) rfl rfl rfl rfl, hl5⟩, fun j hj hd hF => ?_⟩
      rcases Nat.lt_or_ge j 7 with hjn | hjn
      · rcases i7 hjn with rfl | rfl | rfl | rfl | rfl | rfl | rfl
        · have h : s6 = wv a := hF; exact h
        · have h : s7 = wv ma := hF; exact h
        · have h : s8 = wv b := hF; exact h
        · have h : s9 = wv mb := hF; exact h
        · exact (rfl : (wv qd : Value) = wv qd)
        · exact ⟨p5, limb qd, rfl, row_put4 hr5 (limb qd) rfl rfl rfl rfl, hl5⟩
        · exact absurd rfl hj
      · exact FSm_big _ _ _ _ _ _ _ hjn _ _
  · intro s x hG hF
    clear hS
    obtain ⟨s5, s6, s7, s8, s9, s10, rfl, hs⟩ := hG
    obtain ⟨p, rfl, hr, hl⟩ : ∃ p : Nat, s5 = .pointer (some ⟨p, 0, none⟩) ∧ x.rowIs p 24 4 (u64s (limb qd)) ∧ w.heap.size + 1 + 1 < p := hF 6 (by decide)
    clear hF
    obtain ⟨u0, u1, u2, u3⟩ := row_cells4 hs.ra
    go_wp2_with fail
    refine (negative_v a na HNA _).mono ?_
    rintro e w1 ⟨rfl, hb⟩
    replace hs := hs.call hb
    replace hr := row_below hr hb
    clear hb u0 u1 u2 u3
    cases na
    · skip
      obtain ⟨y0, y1, y2, y3⟩ := row_cells4 hr
      have hrz := hs.rz
      have hbel := hs.be
      have z' := hbel.size
      obtain ⟨x0, x1, x2, x3⟩ := row_cells4 hrz
      have fz := hrz.frozen
      go_wp2
      obtain ⟨q0, q1, q2, q3⟩ := row_cells4 (row_put4 hrz (limb qd) rfl rfl rfl rfl)
      refine bodyPost_ret (v := wv qd) (by simp [results, Try.results33, go_sem, q0, q1, q2, q3]) rfl (ret_mk (smod_pos (smod_rel HMA.out HMB.out HQD.out) HNA.out) ?_)
      exact below_put4 hbel (by omega) _ _ _ _
    · skip
      obtain ⟨y0, y1, y2, y3⟩ := row_cells4 hr
      go_wp2_with fail
      refine (negate_any qd _).mono ?_
      rintro e w2 ⟨s, HSN, rfl, hb⟩
      have hrz := row_below hs.rz hb
      have hbel := bcall hs.be hb
      have z' := hbel.size
      obtain ⟨x0, x1, x2, x3⟩ := row_cells4 hrz
      have fz := hrz.frozen
      clear hb
      go_wp2
      obtain ⟨q0, q1, q2, q3⟩ := row_cells4 (row_put4 hrz (limb s) rfl rfl rfl rfl)
      refine bodyPost_ret (v := wv s) (by simp [results, Try.results33, go_sem, q0, q1, q2, q3]) rfl (ret_mk (smod_neg (smod_rel HMA.out HMB.out HQD.out) HNA.out HSN.out (by rw [HQD.out]; exact fmod_lt _ _ (Nat.mod_lt _ Mpos))) ?_)
      exact below_put4 hbel (by omega) _ _ _ _
end cin
end Go.Proofs.Ytohoajjdoihekaa
