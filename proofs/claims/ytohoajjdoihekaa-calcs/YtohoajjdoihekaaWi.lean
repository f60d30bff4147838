/-
  The walks of package word's operations: comparisons, shifts with a sign, bytes.
-/
import Derived.Test.YtohoajjdoihekaaWg
import Derived.Test.YtohoajjdoihekaaReg
set_option linter.unusedVariables false
set_option linter.unusedSimpArgs false
namespace Go.Proofs.Ytohoajjdoihekaa
open Go.RowKit
namespace cin
set_option maxHeartbeats 400000 in
theorem truth_any (h : Bool) (w : World) : Calls Try.prog 38 #[.bool h] w (Ret w (ftruth h)) := by
  cases h
  · go_enter Try.func38, Try.ntmps38
    go_wp2
    refine bodyPost_ret (v := wv 0) (by simp [results, Try.results38, go_sem, limb_zero]) rfl (ret_mk (by rfl) ?_)
    exact bal (Below.refl _ _) _
  · go_enter Try.func38, Try.ntmps38
    go_wp2
    refine bodyPost_ret (v := wv 1) (by rw [← wv_one]; simp [results, Try.results38, go_sem]) rfl (ret_mk (by rfl) ?_)
    exact bal (Below.refl _ _) _
theorem not_w (a : Nat) (w : World) : Calls Try.prog 44 #[wv a] w (Ret w (fnot (a % M))) := by
  refine (not_any a w).mono ?_
  rintro e w' ⟨rfl, hb⟩
  refine ret_mk ?_ hb
  unfold notw fnot
  rfl
theorem shl_w (a b : Nat) (w : World) : Calls Try.prog 46 #[wv a, wv b] w (Ret w (fshl (a % M) b)) := by
  refine (shl_any a b w).mono ?_
  rintro e w' ⟨rfl, hb⟩
  refine ret_mk ?_ hb
  rw [← shlw_eq (a % M) b (Nat.mod_lt _ Mpos), Nat.mod_mod]
  unfold shlw
  rw [Nat.mod_mod]
theorem shr_w (a b : Nat) (w : World) : Calls Try.prog 47 #[wv a, wv b] w (Ret w (fshr (a % M) (b % M))) := by
  rw [← wv_mod b]
  refine (shr_any a (b % M) (Nat.mod_lt _ Mpos) w).mono ?_
  rintro e w' ⟨rfl, hb⟩
  refine ret_mk ?_ hb
  rw [← shrw_eq (a % M) _ (Nat.mod_lt _ Mpos)]
  unfold shrw
  rw [Nat.mod_mod]
theorem less_w (a b : Nat) (w : World) : Calls Try.prog 39 #[wv a, wv b] w fun e w' => ∃ r : Bool, Hid (r = decide (a % M < b % M)) ∧ e = .returned (.bool r) ∧ Below w.heap.size w w' :=
  (less_any a b w).mono fun _ _ h => ⟨_, rfl, h.1, h.2⟩
theorem negative_w (a : Nat) (w : World) : Calls Try.prog 62 #[wv a] w fun e w' => e = .returned (.bool (neg a)) ∧ Below w.heap.size w w' := negative_any a w
theorem i6 {i : Nat} (h : i < 6) : i = 0 ∨ i = 1 ∨ i = 2 ∨ i = 3 ∨ i = 4 ∨ i = 5 := by omega
theorem i5' {i : Nat} (h : i < 5) : i = 0 ∨ i = 1 ∨ i = 2 ∨ i = 3 ∨ i = 4 := by omega
theorem negative_u (a : Nat) (na : Bool) (h : Hid (neg a = na)) (w : World) : Calls Try.prog 62 #[wv a] w fun e w' => e = .returned (.bool na) ∧ Below w.heap.size w w' := by
  have := negative_any a w
  rw [h.out] at this
  exact this
/-- the two words that came in, and all elder memory -/
structure S2 (w : World) (a b : Nat) (x : World) : Prop where
  ra : x.rowIs w.heap.size 24 4 (u64s (limb a))
  rb : x.rowIs (w.heap.size + 1) 24 4 (u64s (limb b))
  be : Below w.heap.size w x
theorem S2.drew {w : World} {a b : Nat} {x : World} (h : S2 w a b x) : S2 w a b x.drew := ⟨h.ra, h.rb, h.be.drew⟩
theorem S2.call {w : World} {a b : Nat} {x y : World} (h : S2 w a b x) (hb : Below x.heap.size x y) : S2 w a b y := ⟨row_below h.ra hb, row_below h.rb hb, bcall h.be hb⟩
theorem S2.start (w : World) (a b : Nat) : S2 w a b ((w.alloc (.cells #[.int .u64 (limb a 0), .int .u64 (limb a 1), .int .u64 (limb a 2), .int .u64 (limb a 3)] 24)).alloc (.cells #[.int .u64 (limb b 0), .int .u64 (limb b 1), .int .u64 (limb b 2), .int .u64 (limb b 3)] 24)) :=
  ⟨row_lit4 (limb a) rfl rfl rfl rfl rfl |>.alloc _, row_lit4 (limb b) (by simp) rfl rfl rfl rfl, bal (bal (Below.refl _ _) _) _⟩
/-- and the result's place -/
structure S3 (w : World) (a b : Nat) (x : World) : Prop where
  ra : x.rowIs w.heap.size 24 4 (u64s (limb a))
  rb : x.rowIs (w.heap.size + 1) 24 4 (u64s (limb b))
  rz : ∃ f : Nat → Int, x.rowIs (w.heap.size + 1 + 1) 24 4 (u64s f)
  be : Below w.heap.size w x
theorem S3.drew {w : World} {a b : Nat} {x : World} (h : S3 w a b x) : S3 w a b x.drew := ⟨h.ra, h.rb, h.rz, h.be.drew⟩
theorem S3.alloc {w : World} {a b : Nat} {x : World} (h : S3 w a b x) (o : Obj) : S3 w a b (x.alloc o) := ⟨h.ra.alloc _, h.rb.alloc _, h.rz.imp fun _ h => h.alloc _, bal h.be _⟩
theorem S3.call {w : World} {a b : Nat} {x y : World} (h : S3 w a b x) (hb : Below x.heap.size x y) : S3 w a b y := ⟨row_below h.ra hb, row_below h.rb hb, h.rz.imp fun _ h => row_below h hb, bcall h.be hb⟩
theorem S3.put {w : World} {a b : Nat} {x : World} (h : S3 w a b x) (r : Nat) : S3 w a b ((((x.setCell ⟨w.heap.size + 1 + 1, 0, none⟩ (.int .u64 (limb r 0))).setCell ⟨w.heap.size + 1 + 1, 1, none⟩ (.int .u64 (limb r 1))).setCell ⟨w.heap.size + 1 + 1, 2, none⟩ (.int .u64 (limb r 2))).setCell ⟨w.heap.size + 1 + 1, 3, none⟩ (.int .u64 (limb r 3))) := by
  obtain ⟨f, hf⟩ := h.rz
  exact ⟨row_keep4 h.ra (by omega) _ _ _ _, row_keep4 h.rb (by omega) _ _ _ _, ⟨limb r, row_put4 hf (limb r) rfl rfl rfl rfl⟩, below_put4 h.be (by omega) _ _ _ _⟩
theorem S3.start (w : World) (a b : Nat) : S3 w a b (((w.alloc (.cells #[.int .u64 (limb a 0), .int .u64 (limb a 1), .int .u64 (limb a 2), .int .u64 (limb a 3)] 24)).alloc (.cells #[.int .u64 (limb b 0), .int .u64 (limb b 1), .int .u64 (limb b 2), .int .u64 (limb b 3)] 24)).alloc (.cells #[.int .u64 0, .int .u64 0, .int .u64 0, .int .u64 0] 24)) :=
  ⟨row_lit4 (limb a) rfl rfl rfl rfl rfl |>.alloc _ |>.alloc _, row_lit4 (limb b) (by simp) rfl rfl rfl rfl |>.alloc _, ⟨fun _ => 0, row_lit4 (fun _ => 0) (by simp) rfl rfl rfl rfl⟩, bal (bal (bal (Below.refl _ _) _) _) _⟩
def FSar (w : World) (a b nb sh r : Nat) : Nat → Act → World → Prop
  | 0, s, _ => s.tmps.getD 7 undef = wv a
  | 1, s, _ => s.tmps.getD 8 undef = wv b
  | 2, s, _ => s.tmps.getD 9 undef = wv nb
  | 3, s, _ => s.tmps.getD 10 undef = wv sh
  | 4, s, _ => s.tmps.getD 11 undef = wv r
  | 5, s, x => x.rowIs (w.heap.size + 1 + 1) 24 4 (u64s (limb r))
  | _, _, _ => True
theorem FSar_big (w : World) (a b nb sh r : Nat) (j : Nat) (h : 6 ≤ j) (s : Act) (x : World) : FSar w a b nb sh r j s x := by
  match j, h with
  | j + 6, _ => trivial
def GSar (w : World) (a b : Nat) (s : Act) (x : World) : Prop := ∃ s5 s6 s7 s8 s9 s10 s11 s12 s13 s14 : Value,
  s = ⟨#[wv a, wv b, .pointer (some ⟨w.heap.size, 0, none⟩), .pointer (some ⟨w.heap.size + 1, 0, none⟩), .pointer (some ⟨w.heap.size + 1 + 1, 0, none⟩), s5, s6, s7, s8, s9, s10, s11, s12, s13, s14], []⟩ ∧ S3 w a b x
theorem sar_neg {a b nb sh r : Nat} (h1 : nb = fnot (b % M)) (h2 : sh = fshr (a % M) (nb % M)) (h3 : r = fnot (sh % M)) (hn : neg b = true) : r % M = fsar (a % M) (b % M) % M := by
  unfold fsar
  rw [neg_mod, hn, if_pos rfl, h3, h2, h1, Nat.mod_eq_of_lt (fnot_lt (b % M)), Nat.mod_eq_of_lt (fshr_lt (a % M) _ (fnot_lt (b % M)))]
set_option maxRecDepth 100000 in
set_option maxHeartbeats 4000000 in
theorem sar_any (a b : Nat) (w : World) : Calls Try.prog 48 #[wv a, wv b] w (Ret w (fsar (a % M) (b % M))) := by
  obtain ⟨nb, HNB⟩ : ∃ nb, Hid (nb = fnot (b % M)) := ⟨_, rfl⟩
  obtain ⟨sh, HSH⟩ : ∃ sh, Hid (sh = fshr (a % M) (nb % M)) := ⟨_, rfl⟩
  obtain ⟨r, HR⟩ : ∃ r, Hid (r = fnot (sh % M)) := ⟨_, rfl⟩
  obtain ⟨ng, HN⟩ : ∃ ng, Hid (neg b = ng) := ⟨_, rfl⟩
  have hs := S3.start w a b
  go_enter Try.func48, Try.ntmps48
  go_wp2_with fail
  refine (negative_u b ng HN _).mono ?_
  rintro e w1 ⟨rfl, hb⟩
  replace hs := hs.call hb
  clear hb
  cases ng
  · obtain ⟨a0, a1, a2, a3⟩ := row_cells4 hs.ra
    obtain ⟨b0, b1, b2, b3⟩ := row_cells4 hs.rb
    go_wp2_with fail
    refine (shr_w a b _).mono ?_
    rintro e w2 ⟨s, HS, rfl, hb⟩
    replace hs := hs.call hb
    clear hb a0 a1 a2 a3 b0 b1 b2 b3
    obtain ⟨f0, hf0⟩ := hs.rz
    obtain ⟨y0, y1, y2, y3⟩ := row_cells4 hf0
    have fz := hf0.frozen
    go_wp2
    obtain ⟨q0, q1, q2, q3⟩ := row_cells4 (row_put4 hf0 (limb s) rfl rfl rfl rfl)
    refine bodyPost_ret (v := wv s) (by simp [results, Try.results48, go_sem, q0, q1, q2, q3]) rfl (ret_mk (by rw [HS.out]; unfold fsar; rw [neg_mod, HN.out, if_neg (by decide)]) ?_)
    exact (hs.put s).be
  · go_wp2
    refine wp_region_inv (by kernel_rfl) (GSar w a b) (FSar w a b nb sh r) (hall_of (by kernel_rfl)) ?_ ?_ ?_
    · exact ⟨_, _, _, _, _, _, _, _, _, _, rfl, hs.drew⟩
    · intro i o ho s x hG hdep
      obtain ⟨s5, s6, s7, s8, s9, s10, s11, s12, s13, s14, rfl, hs⟩ := hG
      have hi : i < 6 := (Array.getElem?_eq_some_iff.1 ho).1
      rcases i6 hi with rfl | rfl | rfl | rfl | rfl | rfl
      · obtain rfl := Option.some.inj (show some _ = some o from ho)
        refine wpOp_step rfl fun K hK => ?_
        obtain ⟨y0, y1, y2, y3⟩ := row_cells4 hs.ra
        go_simp
        refine hK _ _ ⟨⟨_, _, _, _, _, _, _, _, _, _, rfl, hs⟩, rfl, fun j hj hd hF => ?_⟩
        rcases Nat.lt_or_ge j 6 with hjn | hjn
        · rcases i6 hjn with rfl | rfl | rfl | rfl | rfl | rfl
          · exact absurd rfl hj
          · have h : s8 = wv b := hF; exact h
          · have h : s9 = wv nb := hF; exact h
          · exfalso; revert hd; exact of_decide_eq_true (by kernel_rfl)
          · have h : s11 = wv r := hF; exact h
          · have h : x.rowIs (w.heap.size + 1 + 1) 24 4 (u64s (limb r)) := hF; exact h
        · exact FSar_big _ _ _ _ _ _ _ hjn _ _
      · obtain rfl := Option.some.inj (show some _ = some o from ho)
        refine wpOp_step rfl fun K hK => ?_
        obtain ⟨y0, y1, y2, y3⟩ := row_cells4 hs.rb
        go_simp
        refine hK _ _ ⟨⟨_, _, _, _, _, _, _, _, _, _, rfl, hs⟩, rfl, fun j hj hd hF => ?_⟩
        rcases Nat.lt_or_ge j 6 with hjn | hjn
        · rcases i6 hjn with rfl | rfl | rfl | rfl | rfl | rfl
          · have h : s7 = wv a := hF; exact h
          · exact absurd rfl hj
          · exfalso; revert hd; exact of_decide_eq_true (by kernel_rfl)
          · have h : s10 = wv sh := hF; exact h
          · have h : s11 = wv r := hF; exact h
          · have h : x.rowIs (w.heap.size + 1 + 1) 24 4 (u64s (limb r)) := hF; exact h
        · exact FSar_big _ _ _ _ _ _ _ hjn _ _
      · obtain rfl := Option.some.inj (show some _ = some o from ho)
        refine wpOp_step rfl fun K hK => ?_
        have h1 : s8 = wv b := hdep ⟨1, .data⟩ (by simp) rfl
        subst h1
        go_simp
        refine (not_w b _).mono ?_
        rintro e y ⟨rr, HRR, rfl, hb⟩
        obtain rfl : rr = nb := HRR.out.trans HNB.out.symm
        dsimp only
        refine hK _ _ ⟨⟨_, _, _, _, _, _, _, _, _, _, rfl, hs.call hb⟩, rfl, fun j hj hd hF => ?_⟩
        rcases Nat.lt_or_ge j 6 with hjn | hjn
        · rcases i6 hjn with rfl | rfl | rfl | rfl | rfl | rfl
          · have h : s7 = wv a := hF; exact h
          · exact (rfl : (wv b : Value) = wv b)
          · exact absurd rfl hj
          · exfalso; revert hd; exact of_decide_eq_true (by kernel_rfl)
          · have h : s11 = wv r := hF; exact h
          · have h : x.rowIs (w.heap.size + 1 + 1) 24 4 (u64s (limb r)) := hF; exact row_below h hb
        · exact FSar_big _ _ _ _ _ _ _ hjn _ _
      · obtain rfl := Option.some.inj (show some _ = some o from ho)
        refine wpOp_step rfl fun K hK => ?_
        have h0 : s7 = wv a := hdep ⟨0, .data⟩ (by simp) rfl
        subst h0
        have h2 : s9 = wv nb := hdep ⟨2, .data⟩ (by simp) rfl
        subst h2
        go_simp
        refine (shr_w a nb _).mono ?_
        rintro e y ⟨rr, HRR, rfl, hb⟩
        obtain rfl : rr = sh := HRR.out.trans HSH.out.symm
        dsimp only
        refine hK _ _ ⟨⟨_, _, _, _, _, _, _, _, _, _, rfl, hs.call hb⟩, rfl, fun j hj hd hF => ?_⟩
        rcases Nat.lt_or_ge j 6 with hjn | hjn
        · rcases i6 hjn with rfl | rfl | rfl | rfl | rfl | rfl
          · exact (rfl : (wv a : Value) = wv a)
          · have h : s8 = wv b := hF; exact h
          · exact (rfl : (wv nb : Value) = wv nb)
          · exact absurd rfl hj
          · exfalso; revert hd; exact of_decide_eq_true (by kernel_rfl)
          · have h : x.rowIs (w.heap.size + 1 + 1) 24 4 (u64s (limb r)) := hF; exact row_below h hb
        · exact FSar_big _ _ _ _ _ _ _ hjn _ _
      · obtain rfl := Option.some.inj (show some _ = some o from ho)
        refine wpOp_step rfl fun K hK => ?_
        have h3 : s10 = wv sh := hdep ⟨3, .data⟩ (by simp) rfl
        subst h3
        go_simp
        refine (not_w sh _).mono ?_
        rintro e y ⟨rr, HRR, rfl, hb⟩
        obtain rfl : rr = r := HRR.out.trans HR.out.symm
        dsimp only
        refine hK _ _ ⟨⟨_, _, _, _, _, _, _, _, _, _, rfl, hs.call hb⟩, rfl, fun j hj hd hF => ?_⟩
        rcases Nat.lt_or_ge j 6 with hjn | hjn
        · rcases i6 hjn with rfl | rfl | rfl | rfl | rfl | rfl
          · have h : s7 = wv a := hF; exact h
          · have h : s8 = wv b := hF; exact h
          · have h : s9 = wv nb := hF; exact h
          · exact (rfl : (wv sh : Value) = wv sh)
          · exact absurd rfl hj
          · exfalso; revert hd; exact of_decide_eq_true (by kernel_rfl)
        · exact FSar_big _ _ _ _ _ _ _ hjn _ _
      · obtain rfl := Option.some.inj (show some _ = some o from ho)
        refine wpOp_step rfl fun K hK => ?_
        have h4 : s11 = wv r := hdep ⟨4, .data⟩ (by simp) rfl
        subst h4
        obtain ⟨f0, hf0⟩ := hs.rz
        obtain ⟨y0, y1, y2, y3⟩ := row_cells4 hf0
        have fz := hf0.frozen
        go_simp
        refine hK _ _ ⟨⟨_, _, _, _, _, _, _, _, _, _, rfl, hs.put r⟩, row_put4 hf0 (limb r) rfl rfl rfl rfl, fun j hj hd hF => ?_⟩
        rcases Nat.lt_or_ge j 6 with hjn | hjn
        · rcases i6 hjn with rfl | rfl | rfl | rfl | rfl | rfl
          · have h : s7 = wv a := hF; exact h
          · have h : s8 = wv b := hF; exact h
          · have h : s9 = wv nb := hF; exact h
          · have h : s10 = wv sh := hF; exact h
          · exact (rfl : (wv r : Value) = wv r)
          · exact absurd rfl hj
        · exact FSar_big _ _ _ _ _ _ _ hjn _ _
    · intro s x hG hF
      obtain ⟨s5, s6, s7, s8, s9, s10, s11, s12, s13, s14, rfl, hs⟩ := hG
      have hr : x.rowIs (w.heap.size + 1 + 1) 24 4 (u64s (limb r)) := hF 5 (by decide)
      clear hF
      go_wp2
      obtain ⟨q0, q1, q2, q3⟩ := row_cells4 hr
      refine bodyPost_ret (v := wv r) (by simp [results, Try.results48, go_sem, q0, q1, q2, q3]) rfl (ret_mk (sar_neg HNB.out HSH.out HR.out HN.out) ?_)
      exact hs.be
def FSl (a b : Nat) (na nb : Bool) : Nat → Act → World → Prop
  | 0, s, _ => s.tmps.getD 5 undef = wv a
  | 1, s, _ => s.tmps.getD 6 undef = .bool na
  | 2, s, _ => s.tmps.getD 7 undef = wv b
  | 3, s, _ => s.tmps.getD 8 undef = .bool nb
  | 4, s, _ => s.tmps.getD 9 undef = .bool (na != nb)
  | _, _, _ => True
theorem FSl_big (a b : Nat) (na nb : Bool) (j : Nat) (h : 5 ≤ j) (s : Act) (x : World) : FSl a b na nb j s x := by
  match j, h with
  | j + 5, _ => trivial
def GSl (w : World) (a b : Nat) (s : Act) (x : World) : Prop := ∃ s5 s6 s7 s8 s9 s10 s11 s12 s13 s14 : Value,
  s = ⟨#[wv a, wv b, .pointer (some ⟨w.heap.size, 0, none⟩), .pointer (some ⟨w.heap.size + 1, 0, none⟩), .bool false, s5, s6, s7, s8, s9, s10, s11, s12, s13, s14], []⟩ ∧ S2 w a b x
set_option maxRecDepth 100000 in
set_option maxHeartbeats 4000000 in
theorem signedLess_any (a b : Nat) (w : World) : Calls Try.prog 40 #[wv a, wv b] w fun e w' => ∃ r : Bool, Hid (r = fslt (a % M) (b % M)) ∧ e = .returned (.bool r) ∧ Below w.heap.size w w' := by
  obtain ⟨na, HNA⟩ : ∃ na, Hid (neg a = na) := ⟨_, rfl⟩
  obtain ⟨nb, HNB⟩ : ∃ nb, Hid (neg b = nb) := ⟨_, rfl⟩
  have hS := S2.start w a b
  go_enter Try.func40, Try.ntmps40
  go_wp2
  refine wp_region_inv (by kernel_rfl) (GSl w a b) (FSl a b na nb) (hall_of (by kernel_rfl)) ?_ ?_ ?_
  · exact ⟨_, _, _, _, _, _, _, _, _, _, rfl, hS.drew⟩
  · intro i o ho s x hG hdep
    obtain ⟨s5, s6, s7, s8, s9, s10, s11, s12, s13, s14, rfl, hs⟩ := hG
    have hi : i < 5 := (Array.getElem?_eq_some_iff.1 ho).1
    rcases i5' hi with rfl | rfl | rfl | rfl | rfl
    · obtain rfl := Option.some.inj (show some _ = some o from ho)
      refine wpOp_step rfl fun K hK => ?_
      obtain ⟨y0, y1, y2, y3⟩ := row_cells4 hs.ra
      go_simp
      refine hK _ _ ⟨⟨_, _, _, _, _, _, _, _, _, _, rfl, hs⟩, rfl, fun j hj hd hF => ?_⟩
      rcases Nat.lt_or_ge j 5 with hjn | hjn
      · rcases i5' hjn with rfl | rfl | rfl | rfl | rfl
        · exact absurd rfl hj
        · exfalso; revert hd; exact of_decide_eq_true (by kernel_rfl)
        · have h : s7 = wv b := hF; exact h
        · have h : s8 = .bool nb := hF; exact h
        · have h : s9 = .bool (na != nb) := hF; exact h
      · exact FSl_big _ _ _ _ _ hjn _ _
    · obtain rfl := Option.some.inj (show some _ = some o from ho)
      refine wpOp_step rfl fun K hK => ?_
      have h0 : s5 = wv a := hdep ⟨0, .data⟩ (by simp) rfl
      subst h0
      go_simp
      refine (negative_u a na HNA _).mono ?_
      rintro e y ⟨rfl, hb⟩
      dsimp only
      refine hK _ _ ⟨⟨_, _, _, _, _, _, _, _, _, _, rfl, hs.call hb⟩, rfl, fun j hj hd hF => ?_⟩
      rcases Nat.lt_or_ge j 5 with hjn | hjn
      · rcases i5' hjn with rfl | rfl | rfl | rfl | rfl
        · exact (rfl : (wv a : Value) = wv a)
        · exact absurd rfl hj
        · have h : s7 = wv b := hF; exact h
        · have h : s8 = .bool nb := hF; exact h
        · exfalso; revert hd; exact of_decide_eq_true (by kernel_rfl)
      · exact FSl_big _ _ _ _ _ hjn _ _
    · obtain rfl := Option.some.inj (show some _ = some o from ho)
      refine wpOp_step rfl fun K hK => ?_
      obtain ⟨y0, y1, y2, y3⟩ := row_cells4 hs.rb
      go_simp
      refine hK _ _ ⟨⟨_, _, _, _, _, _, _, _, _, _, rfl, hs⟩, rfl, fun j hj hd hF => ?_⟩
      rcases Nat.lt_or_ge j 5 with hjn | hjn
      · rcases i5' hjn with rfl | rfl | rfl | rfl | rfl
        · have h : s5 = wv a := hF; exact h
        · have h : s6 = .bool na := hF; exact h
        · exact absurd rfl hj
        · exfalso; revert hd; exact of_decide_eq_true (by kernel_rfl)
        · have h : s9 = .bool (na != nb) := hF; exact h
      · exact FSl_big _ _ _ _ _ hjn _ _
    · obtain rfl := Option.some.inj (show some _ = some o from ho)
      refine wpOp_step rfl fun K hK => ?_
      have h2 : s7 = wv b := hdep ⟨2, .data⟩ (by simp) rfl
      subst h2
      go_simp
      refine (negative_u b nb HNB _).mono ?_
      rintro e y ⟨rfl, hb⟩
      dsimp only
      refine hK _ _ ⟨⟨_, _, _, _, _, _, _, _, _, _, rfl, hs.call hb⟩, rfl, fun j hj hd hF => ?_⟩
      rcases Nat.lt_or_ge j 5 with hjn | hjn
      · rcases i5' hjn with rfl | rfl | rfl | rfl | rfl
        · have h : s5 = wv a := hF; exact h
        · have h : s6 = .bool na := hF; exact h
        · exact (rfl : (wv b : Value) = wv b)
        · exact absurd rfl hj
        · exfalso; revert hd; exact of_decide_eq_true (by kernel_rfl)
      · exact FSl_big _ _ _ _ _ hjn _ _
    · obtain rfl := Option.some.inj (show some _ = some o from ho)
      refine wpOp_step rfl fun K hK => ?_
      have h1 : s6 = .bool na := hdep ⟨1, .data⟩ (by simp) rfl
      subst h1
      have h3 : s8 = .bool nb := hdep ⟨3, .data⟩ (by simp) rfl
      subst h3
      go_simp
      refine hK _ _ ⟨⟨_, _, _, _, _, _, _, _, _, _, rfl, hs⟩, rfl, fun j hj hd hF => ?_⟩
      rcases Nat.lt_or_ge j 5 with hjn | hjn
      · rcases i5' hjn with rfl | rfl | rfl | rfl | rfl
        · have h : s5 = wv a := hF; exact h
        · exact (rfl : (.bool na : Value) = .bool na)
        · have h : s7 = wv b := hF; exact h
        · exact (rfl : (.bool nb : Value) = .bool nb)
        · exact absurd rfl hj
      · exact FSl_big _ _ _ _ _ hjn _ _
  · intro s x hG hF
    obtain ⟨s5, s6, s7, s8, s9, s10, s11, s12, s13, s14, rfl, hs⟩ := hG
    have h4 : s9 = .bool (na != nb) := hF 4 (by decide)
    clear hF
    subst h4
    cases na <;> cases nb
    · skip
      obtain ⟨a0, a1, a2, a3⟩ := row_cells4 hs.ra
      obtain ⟨b0, b1, b2, b3⟩ := row_cells4 hs.rb
      go_wp2_with fail
      refine (less_w a b _).mono ?_
      rintro e w2 ⟨t, HT, rfl, hb⟩
      go_wp2
      go_ret
      exact ⟨_, by show _ = fslt _ _; unfold fslt; rw [neg_mod, neg_mod, HNA.out, HNB.out, HT.out]; rfl, rfl, bcall hs.be hb⟩
    · skip
      obtain ⟨a0, a1, a2, a3⟩ := row_cells4 hs.ra
      go_wp2_with fail
      refine (negative_u a _ HNA _).mono ?_
      rintro e w2 ⟨rfl, hb⟩
      go_wp2
      go_ret
      exact ⟨_, by show _ = fslt _ _; unfold fslt; rw [neg_mod, neg_mod, HNA.out, HNB.out]; rfl, rfl, bcall hs.be hb⟩
    · skip
      obtain ⟨a0, a1, a2, a3⟩ := row_cells4 hs.ra
      go_wp2_with fail
      refine (negative_u a _ HNA _).mono ?_
      rintro e w2 ⟨rfl, hb⟩
      go_wp2
      go_ret
      exact ⟨_, by show _ = fslt _ _; unfold fslt; rw [neg_mod, neg_mod, HNA.out, HNB.out]; rfl, rfl, bcall hs.be hb⟩
    · skip
      obtain ⟨a0, a1, a2, a3⟩ := row_cells4 hs.ra
      obtain ⟨b0, b1, b2, b3⟩ := row_cells4 hs.rb
      go_wp2_with fail
      refine (less_w a b _).mono ?_
      rintro e w2 ⟨t, HT, rfl, hb⟩
      go_wp2
      go_ret
      exact ⟨_, by show _ = fslt _ _; unfold fslt; rw [neg_mod, neg_mod, HNA.out, HNB.out, HT.out]; rfl, rfl, bcall hs.be hb⟩
def FSe (w : World) (b lf sl r : Nat) : Nat → Act → World → Prop
  | 0, s, _ => s.tmps.getD 15 undef = wv lf
  | 1, s, _ => s.tmps.getD 16 undef = wv lf
  | 2, s, _ => s.tmps.getD 17 undef = wv b
  | 3, s, _ => s.tmps.getD 18 undef = wv sl
  | 4, s, _ => s.tmps.getD 19 undef = wv r
  | 5, s, x => x.rowIs (w.heap.size + 1 + 1) 24 4 (u64s (limb r))
  | _, _, _ => True
theorem FSe_big (w : World) (b lf sl r : Nat) (j : Nat) (h : 6 ≤ j) (s : Act) (x : World) : FSe w b lf sl r j s x := by
  match j, h with
  | j + 6, _ => trivial
def GSe (w : World) (a b p lf : Nat) (s : Act) (x : World) : Prop := ∃ s6 s7 s8 s9 s10 s11 s12 s13 s14 s15 s16 s17 s18 s19 : Value,
  s = ⟨#[wv a, wv b, .pointer (some ⟨w.heap.size, 0, none⟩), .pointer (some ⟨w.heap.size + 1, 0, none⟩), .pointer (some ⟨w.heap.size + 1 + 1, 0, none⟩), .pointer (some ⟨p, 0, none⟩), s6, s7, s8, s9, s10, s11, s12, s13, s14, s15, s16, s17, s18, s19], []⟩ ∧ (S3 w a b x ∧ x.rowIs p 24 4 (u64s (limb lf)))
theorem sext_out {a b : Nat} (h : decide (a % M < 31) = false) : b % M = fsext (a % M) (b % M) % M := by
  unfold fsext; rw [if_neg (of_decide_eq_false h), Nat.mod_mod]
theorem sext_in {a b lf sl r : Nat} (h : decide (a % M < 31) = true) (h0 : lf = 248 - 8 * (a % M)) (h1 : sl = fshl (lf % M) b) (h2 : r = fsar (lf % M) (sl % M)) : r % M = fsext (a % M) (b % M) % M := by
  have e : lf % M = lf := Nat.mod_eq_of_lt (by rw [h0]; unfold M; omega)
  have e2 : fshl lf b = fshl lf (b % M) := by
    unfold fshl
    split
    · rw [Nat.mul_mod b (2 ^ lf) M, Nat.mul_mod (b % M) (2 ^ lf) M, Nat.mod_mod]
    · rfl
  unfold fsext
  rw [if_pos (of_decide_eq_true h), ← h0, h2, h1, e, Nat.mod_eq_of_lt (fshl_lt _ _), e2]
theorem below_small {a : Nat} {k : Nat} (hk : k ≤ 256) (h : decide (a % M < k) = true) : ∃ s : Nat, s < k ∧ s = a % M ∧ limb a 0 = (s : Int) := by
  have h2 := of_decide_eq_true h
  refine ⟨a % M, h2, rfl, ?_⟩
  unfold limb M at *
  rw [pw0]
  omega
theorem below_w (a k : Nat) (hk : k < 18446744073709551616) (t : Bool) (ht : Hid (decide (a % M < k) = t)) (w : World) :
    Calls Try.prog 66 #[wv a, .int .u64 (k : Int)] w fun e w' => e = .returned (.bool t) ∧ Below w.heap.size w w' := by
  have := below_any a k hk w
  unfold ltw at this
  rw [Nat.mod_eq_of_lt (show k < M by unfold M; omega), ht.out] at this
  exact this
theorem small_limbs (n : Nat) (h : n < 18446744073709551616) : limb n 0 = (n : Int) ∧ limb n 1 = 0 ∧ limb n 2 = 0 ∧ limb n 3 = 0 := by
  unfold limb
  rw [pw0, pw1, pw2, pw3]
  refine ⟨?_, ?_, ?_, ?_⟩ <;> omega
set_option maxRecDepth 100000 in
set_option maxHeartbeats 4000000 in
theorem signextend_any (a b : Nat) (w : World) : Calls Try.prog 37 #[wv a, wv b] w (Ret w (fsext (a % M) (b % M))) := by
  obtain ⟨t, HT⟩ : ∃ t, Hid (decide (a % M < 31) = t) := ⟨_, rfl⟩
  have hs := S3.start w a b
  go_enter Try.func37, Try.ntmps37
  go_wp2_with fail
  refine (below_w a 31 (by omega) t HT _).mono ?_
  rintro e w1 ⟨rfl, hb⟩
  replace hs := hs.call hb
  clear hb
  cases t
  · obtain ⟨b0, b1, b2, b3⟩ := row_cells4 hs.rb
    obtain ⟨f0, hf0⟩ := hs.rz
    obtain ⟨y0, y1, y2, y3⟩ := row_cells4 hf0
    have fz := hf0.frozen
    go_wp2
    obtain ⟨q0, q1, q2, q3⟩ := row_cells4 (row_put4 hf0 (limb b) rfl rfl rfl rfl)
    refine bodyPost_ret (v := wv b) (by simp [results, Try.results37, go_sem, q0, q1, q2, q3]) rfl (ret_mk (sext_out HT.out) ?_)
    exact (hs.put b).be
  · obtain ⟨s, hs1, hs2, hs3⟩ := below_small (k := 31) (by omega) HT.out
    have HS2 : Hid (s = a % M) := hs2
    obtain ⟨a0, a1, a2, a3⟩ := row_cells4 hs.ra
    rw [hs3] at a0
    clear hs2 hs3 a1 a2 a3
    obtain ⟨lf, HLF⟩ : ∃ lf, Hid (lf = 248 - 8 * s) := ⟨_, rfl⟩
    obtain ⟨sl, HSL⟩ : ∃ sl, Hid (sl = fshl (lf % M) b) := ⟨_, rfl⟩
    obtain ⟨r, HR⟩ : ∃ r, Hid (r = fsar (lf % M) (sl % M)) := ⟨_, rfl⟩
    have hpl : w.heap.size + 1 + 1 < w1.heap.size := by obtain ⟨f0, hf0⟩ := hs.rz; exact hf0.lt
    have L0 : Hid ((248 - 8 * (s : Int)) = limb lf 0) := by show _ = _; rw [(small_limbs lf (by rw [HLF.out]; omega)).1, HLF.out]; omega
    have L1 : Hid ((0 : Int) = limb lf 1) := (small_limbs lf (by rw [HLF.out]; omega)).2.1.symm
    have L2 : Hid ((0 : Int) = limb lf 2) := (small_limbs lf (by rw [HLF.out]; omega)).2.2.1.symm
    have L3 : Hid ((0 : Int) = limb lf 3) := (small_limbs lf (by rw [HLF.out]; omega)).2.2.2.symm
    go_wp2
    refine wp_region_inv (by kernel_rfl) (GSe w a b w1.heap.size lf) (FSe w b lf sl r) (hall_of (by kernel_rfl)) ?_ ?_ ?_
    · exact ⟨_, _, _, _, _, _, _, _, _, _, _, _, _, _, rfl, ⟨(hs.alloc _).drew, (row_lit4 (limb lf) rfl L0.out L1.out L2.out L3.out).drew⟩⟩
    · intro i o ho s x hG hdep
      obtain ⟨s6, s7, s8, s9, s10, s11, s12, s13, s14, s15, s16, s17, s18, s19, rfl, hs⟩ := hG
      have hi : i < 6 := (Array.getElem?_eq_some_iff.1 ho).1
      rcases i6 hi with rfl | rfl | rfl | rfl | rfl | rfl
      · obtain rfl := Option.some.inj (show some _ = some o from ho)
        refine wpOp_step rfl fun K hK => ?_
        obtain ⟨y0, y1, y2, y3⟩ := row_cells4 hs.2
        go_simp
        refine hK _ _ ⟨⟨_, _, _, _, _, _, _, _, _, _, _, _, _, _, rfl, hs⟩, rfl, fun j hj hd hF => ?_⟩
        rcases Nat.lt_or_ge j 6 with hjn | hjn
        · rcases i6 hjn with rfl | rfl | rfl | rfl | rfl | rfl
          · exact absurd rfl hj
          · have h : s16 = wv lf := hF; exact h
          · have h : s17 = wv b := hF; exact h
          · have h : s18 = wv sl := hF; exact h
          · exfalso; revert hd; exact of_decide_eq_true (by kernel_rfl)
          · have h : x.rowIs (w.heap.size + 1 + 1) 24 4 (u64s (limb r)) := hF; exact h
        · exact FSe_big _ _ _ _ _ _ hjn _ _
      · obtain rfl := Option.some.inj (show some _ = some o from ho)
        refine wpOp_step rfl fun K hK => ?_
        obtain ⟨y0, y1, y2, y3⟩ := row_cells4 hs.2
        go_simp
        refine hK _ _ ⟨⟨_, _, _, _, _, _, _, _, _, _, _, _, _, _, rfl, hs⟩, rfl, fun j hj hd hF => ?_⟩
        rcases Nat.lt_or_ge j 6 with hjn | hjn
        · rcases i6 hjn with rfl | rfl | rfl | rfl | rfl | rfl
          · have h : s15 = wv lf := hF; exact h
          · exact absurd rfl hj
          · have h : s17 = wv b := hF; exact h
          · exfalso; revert hd; exact of_decide_eq_true (by kernel_rfl)
          · have h : s19 = wv r := hF; exact h
          · have h : x.rowIs (w.heap.size + 1 + 1) 24 4 (u64s (limb r)) := hF; exact h
        · exact FSe_big _ _ _ _ _ _ hjn _ _
      · obtain rfl := Option.some.inj (show some _ = some o from ho)
        refine wpOp_step rfl fun K hK => ?_
        obtain ⟨y0, y1, y2, y3⟩ := row_cells4 hs.1.rb
        go_simp
        refine hK _ _ ⟨⟨_, _, _, _, _, _, _, _, _, _, _, _, _, _, rfl, hs⟩, rfl, fun j hj hd hF => ?_⟩
        rcases Nat.lt_or_ge j 6 with hjn | hjn
        · rcases i6 hjn with rfl | rfl | rfl | rfl | rfl | rfl
          · have h : s15 = wv lf := hF; exact h
          · have h : s16 = wv lf := hF; exact h
          · exact absurd rfl hj
          · exfalso; revert hd; exact of_decide_eq_true (by kernel_rfl)
          · have h : s19 = wv r := hF; exact h
          · have h : x.rowIs (w.heap.size + 1 + 1) 24 4 (u64s (limb r)) := hF; exact h
        · exact FSe_big _ _ _ _ _ _ hjn _ _
      · obtain rfl := Option.some.inj (show some _ = some o from ho)
        refine wpOp_step rfl fun K hK => ?_
        have h1 : s16 = wv lf := hdep ⟨1, .data⟩ (by simp) rfl
        subst h1
        have h2 : s17 = wv b := hdep ⟨2, .data⟩ (by simp) rfl
        subst h2
        go_simp
        refine (shl_w lf b _).mono ?_
        rintro e y ⟨rr, HRR, rfl, hb⟩
        obtain rfl : rr = sl := HRR.out.trans HSL.out.symm
        dsimp only
        refine hK _ _ ⟨⟨_, _, _, _, _, _, _, _, _, _, _, _, _, _, rfl, ⟨hs.1.call hb, row_below hs.2 hb⟩⟩, rfl, fun j hj hd hF => ?_⟩
        rcases Nat.lt_or_ge j 6 with hjn | hjn
        · rcases i6 hjn with rfl | rfl | rfl | rfl | rfl | rfl
          · have h : s15 = wv lf := hF; exact h
          · exact (rfl : (wv lf : Value) = wv lf)
          · exact (rfl : (wv b : Value) = wv b)
          · exact absurd rfl hj
          · exfalso; revert hd; exact of_decide_eq_true (by kernel_rfl)
          · have h : x.rowIs (w.heap.size + 1 + 1) 24 4 (u64s (limb r)) := hF; exact row_below h hb
        · exact FSe_big _ _ _ _ _ _ hjn _ _
      · obtain rfl := Option.some.inj (show some _ = some o from ho)
        refine wpOp_step rfl fun K hK => ?_
        have h0 : s15 = wv lf := hdep ⟨0, .data⟩ (by simp) rfl
        subst h0
        have h3 : s18 = wv sl := hdep ⟨3, .data⟩ (by simp) rfl
        subst h3
        go_simp
        refine (sar_any lf sl _).mono ?_
        rintro e y ⟨rr, HRR, rfl, hb⟩
        obtain rfl : rr = r := HRR.out.trans HR.out.symm
        dsimp only
        refine hK _ _ ⟨⟨_, _, _, _, _, _, _, _, _, _, _, _, _, _, rfl, ⟨hs.1.call hb, row_below hs.2 hb⟩⟩, rfl, fun j hj hd hF => ?_⟩
        rcases Nat.lt_or_ge j 6 with hjn | hjn
        · rcases i6 hjn with rfl | rfl | rfl | rfl | rfl | rfl
          · exact (rfl : (wv lf : Value) = wv lf)
          · have h : s16 = wv lf := hF; exact h
          · have h : s17 = wv b := hF; exact h
          · exact (rfl : (wv sl : Value) = wv sl)
          · exact absurd rfl hj
          · exfalso; revert hd; exact of_decide_eq_true (by kernel_rfl)
        · exact FSe_big _ _ _ _ _ _ hjn _ _
      · obtain rfl := Option.some.inj (show some _ = some o from ho)
        refine wpOp_step rfl fun K hK => ?_
        have h4 : s19 = wv r := hdep ⟨4, .data⟩ (by simp) rfl
        subst h4
        obtain ⟨f0, hf0⟩ := hs.1.rz
        obtain ⟨y0, y1, y2, y3⟩ := row_cells4 hf0
        have fz := hf0.frozen
        go_simp
        refine hK _ _ ⟨⟨_, _, _, _, _, _, _, _, _, _, _, _, _, _, rfl, ⟨hs.1.put r, row_keep4 hs.2 (Nat.ne_of_gt hpl) _ _ _ _⟩⟩, row_put4 hf0 (limb r) rfl rfl rfl rfl, fun j hj hd hF => ?_⟩
        rcases Nat.lt_or_ge j 6 with hjn | hjn
        · rcases i6 hjn with rfl | rfl | rfl | rfl | rfl | rfl
          · have h : s15 = wv lf := hF; exact h
          · have h : s16 = wv lf := hF; exact h
          · have h : s17 = wv b := hF; exact h
          · have h : s18 = wv sl := hF; exact h
          · exact (rfl : (wv r : Value) = wv r)
          · exact absurd rfl hj
        · exact FSe_big _ _ _ _ _ _ hjn _ _
    · intro s x hG hF
      obtain ⟨s6, s7, s8, s9, s10, s11, s12, s13, s14, s15, s16, s17, s18, s19, rfl, hs⟩ := hG
      have hr : x.rowIs (w.heap.size + 1 + 1) 24 4 (u64s (limb r)) := hF 5 (by decide)
      clear hF
      obtain ⟨hs, -⟩ := hs
      go_wp2
      obtain ⟨q0, q1, q2, q3⟩ := row_cells4 hr
      refine bodyPost_ret (v := wv r) (by simp [results, Try.results37, go_sem, q0, q1, q2, q3]) rfl (ret_mk (sext_in HT.out (by rw [HLF.out, HS2.out]) HSL.out HR.out) ?_)
      exact hs.be
theorem byte_out {a b : Nat} (h : decide (a % M < 32) = false) : 0 % M = fbyte (a % M) (b % M) % M := by
  unfold fbyte; rw [if_neg (of_decide_eq_false h)]
theorem byte_in {a b k m : Nat} (h : decide (a % M < 32) = true) (h0 : k = 8 * (31 - a % M)) (h1 : m = fshr (k % M) (b % M)) : m % 256 % M = fbyte (a % M) (b % M) % M := by
  have e : k % M = k := Nat.mod_eq_of_lt (by rw [h0]; unfold M; omega)
  unfold fbyte
  rw [if_pos (of_decide_eq_true h), ← h0, h1, e]
theorem and_255 (m : Nat) : bits .and .u64 (limb m 0) 255 = ((m % 256 : Nat) : Int) := by
  have h := bits_and_u64_nat (limbN m 0) 255 (limbN_lt _ _) (by omega)
  rw [show limbN m 0 &&& 255 = limbN m 0 % 256 from Nat.and_two_pow_sub_one_eq_mod _ 8] at h
  rw [limb_eq]
  refine h.trans ?_
  unfold limbN
  rw [pw0]
  omega
set_option maxRecDepth 100000 in
set_option maxHeartbeats 4000000 in
theorem byteAt_any (a b : Nat) (w : World) : Calls Try.prog 45 #[wv a, wv b] w (Ret w (fbyte (a % M) (b % M))) := by
  obtain ⟨t, HT⟩ : ∃ t, Hid (decide (a % M < 32) = t) := ⟨_, rfl⟩
  have hs := S3.start w a b
  go_enter Try.func45, Try.ntmps45
  go_wp2_with fail
  refine (below_w a 32 (by omega) t HT _).mono ?_
  rintro e w1 ⟨rfl, hb⟩
  replace hs := hs.call hb
  clear hb
  cases t
  · obtain ⟨f0, hf0⟩ := hs.rz
    obtain ⟨y0, y1, y2, y3⟩ := row_cells4 hf0
    have fz := hf0.frozen
    go_wp2
    obtain ⟨q0, q1, q2, q3⟩ := row_cells4 (row_put4 hf0 (fun _ => 0) rfl rfl rfl rfl)
    refine bodyPost_ret (v := wv 0) (by rw [← wv_zero]; simp [results, Try.results45, go_sem, q0, q1, q2, q3]) rfl (ret_mk (byte_out HT.out) ?_)
    exact below_put4 hs.be (by omega) _ _ _ _
  · obtain ⟨s, hs1, hs2, hs3⟩ := below_small (k := 32) (by omega) HT.out
    have HS2 : Hid (s = a % M) := hs2
    obtain ⟨a0, a1, a2, a3⟩ := row_cells4 hs.ra
    obtain ⟨b0, b1, b2, b3⟩ := row_cells4 hs.rb
    rw [hs3] at a0
    clear hs2 hs3 a1 a2 a3
    obtain ⟨k, HK⟩ : ∃ k, Hid (k = 8 * (31 - s)) := ⟨_, rfl⟩
    go_wp2_with fail
    rw [show (8 * (31 - (s : Int))) = (k : Int) from by rw [HK.out]; omega, wv_small k (by rw [HK.out]; omega)]
    refine (shr_w k b _).mono ?_
    rintro e w2 ⟨m, HM, rfl, hb⟩
    replace hs := hs.call hb
    clear hb a0 b0 b1 b2 b3
    obtain ⟨r, HR⟩ : ∃ r, Hid (r = m % 256) := ⟨_, rfl⟩
    have h255 : bits .and .u64 (limb m 0) 255 = (r : Int) := by rw [HR.out]; exact and_255 m
    have hrl : r < 18446744073709551616 := by rw [HR.out]; omega
    have HRL : Hid (r < 18446744073709551616) := hrl
    clear hrl
    obtain ⟨f0, hf0⟩ := hs.rz
    obtain ⟨y0, y1, y2, y3⟩ := row_cells4 hf0
    have fz := hf0.frozen
    have z := hf0.lt
    go_wp2
    obtain ⟨q0, q1, q2, q3⟩ := row_cells4 (row_put4 hf0 (limb r) (x0 := (r : Int)) (x1 := 0) (x2 := 0) (x3 := 0) (small_limbs r HRL.out).1.symm (small_limbs r HRL.out).2.1.symm (small_limbs r HRL.out).2.2.1.symm (small_limbs r HRL.out).2.2.2.symm)
    refine bodyPost_ret (v := wv r) (by simp [results, Try.results45, go_sem, q0, q1, q2, q3, z]) rfl (ret_mk (by rw [HR.out]; exact byte_in HT.out (by rw [HK.out, HS2.out]) HM.out) ?_)
    exact bal (below_put4 hs.be (by omega) _ _ _ _) _
end cin
end Go.Proofs.Ytohoajjdoihekaa
