/-
  The walks of package word's sums and products by a modulus.
-/
import Derived.Test.YtohoajjdoihekaaWh
set_option linter.unusedVariables false
set_option linter.unusedSimpArgs false
namespace Go.Proofs.Ytohoajjdoihekaa
open Go.RowKit
namespace cin
theorem i12 {i : Nat} (h : i < 12) : i = 0 ∨ i = 1 ∨ i = 2 ∨ i = 3 ∨ i = 4 ∨ i = 5 ∨ i = 6 ∨ i = 7 ∨ i = 8 ∨ i = 9 ∨ i = 10 ∨ i = 11 := by omega
structure S4 (w : World) (a b c : Nat) (x : World) : Prop where
  ra : x.rowIs w.heap.size 24 4 (u64s (limb a))
  rb : x.rowIs (w.heap.size + 1) 24 4 (u64s (limb b))
  rc : x.rowIs (w.heap.size + 1 + 1) 24 4 (u64s (limb c))
  rz : x.rowIs (w.heap.size + 1 + 1 + 1) 24 4 (u64s fun _ => 0)
  be : Below w.heap.size w x
theorem S4.drew {w : World} {a b c : Nat} {x : World} (h : S4 w a b c x) : S4 w a b c x.drew := ⟨h.ra, h.rb, h.rc, h.rz, h.be.drew⟩
theorem S4.alloc {w : World} {a b c : Nat} {x : World} (h : S4 w a b c x) (o : Obj) : S4 w a b c (x.alloc o) := ⟨h.ra.alloc _, h.rb.alloc _, h.rc.alloc _, h.rz.alloc _, bal h.be _⟩
theorem S4.call {w : World} {a b c : Nat} {x y : World} (h : S4 w a b c x) (hb : Below x.heap.size x y) : S4 w a b c y := ⟨row_below h.ra hb, row_below h.rb hb, row_below h.rc hb, row_below h.rz hb, bcall h.be hb⟩
theorem S4.set {w : World} {a b c : Nat} {x : World} (h : S4 w a b c x) {p : Addr} (hp : w.heap.size + 1 + 1 + 1 < p.block) (v : Value) : S4 w a b c (x.setCell p v) :=
  ⟨h.ra.setOther (by omega) _, h.rb.setOther (by omega) _, h.rc.setOther (by omega) _, h.rz.setOther (by omega) _, h.be.setCell (by omega) _⟩
theorem S4.start (w : World) (a b c : Nat) : S4 w a b c ((((w.alloc (.cells #[.int .u64 (limb a 0), .int .u64 (limb a 1), .int .u64 (limb a 2), .int .u64 (limb a 3)] 24)).alloc (.cells #[.int .u64 (limb b 0), .int .u64 (limb b 1), .int .u64 (limb b 2), .int .u64 (limb b 3)] 24)).alloc (.cells #[.int .u64 (limb c 0), .int .u64 (limb c 1), .int .u64 (limb c 2), .int .u64 (limb c 3)] 24)).alloc (.cells #[.int .u64 0, .int .u64 0, .int .u64 0, .int .u64 0] 24)) :=
  ⟨row_lit4 (limb a) rfl rfl rfl rfl rfl |>.alloc _ |>.alloc _ |>.alloc _, row_lit4 (limb b) (by simp) rfl rfl rfl rfl |>.alloc _ |>.alloc _, row_lit4 (limb c) (by simp) rfl rfl rfl rfl |>.alloc _, row_lit4 (fun _ => 0) (by simp) rfl rfl rfl rfl, bal (bal (bal (bal (Below.refl _ _) _) _) _) _⟩
theorem prod_le (x n : Nat) (hn : 512 ≤ n) (h : x < M * M) : x < 2 ^ n := by
  have e : M * M ≤ 2 ^ (n - 256) * 2 ^ 256 := Nat.mul_le_mul (M_le_pow (n - 256) (by omega)) (M_le_pow 256 (by omega))
  have e2 : 2 ^ (n - 256) * 2 ^ 256 = 2 ^ n := by rw [← Nat.pow_add]; congr 1; omega
  omega
theorem prodw_lt (a b : Nat) : prodw a b < 2 ^ (64 * 8) := by
  have h1 : a % M * (b % M) < M * M := Nat.mul_lt_mul'' (Nat.mod_lt _ Mpos) (Nat.mod_lt _ Mpos)
  have h := prod_le (prodw a b) (64 * 8) (by omega) h1
  exact h
def FMm (w : World) (a b c pr q r : Nat) : Nat → Act → World → Prop
  | 0, s, _ => s.tmps.getD 10 undef = wv a
  | 1, s, _ => s.tmps.getD 11 undef = wv b
  | 2, s, _ => s.tmps.getD 12 undef = wv8 pr
  | 3, s, _ => s.tmps.getD 13 undef = wv c
  | 4, s, _ => s.tmps.getD 14 undef = .tuple #[wv8 q, wv r]
  | 5, s, _ => s.tmps.getD 9 undef = .tuple #[wv8 q, wv r]
  | 6, s, _ => s.tmps.getD 15 undef = wv8 q
  | 7, s, _ => s.tmps.getD 16 undef = wv r
  | 8, s, x => ∃ (p : Nat) (f : Nat → Int), s.tmps.getD 7 undef = .pointer (some ⟨p, 0, none⟩) ∧ x.rowIs p 53 8 (u64s f) ∧ w.heap.size + 1 + 1 + 1 < p
  | 9, s, x => ∃ (p : Nat) (f : Nat → Int), s.tmps.getD 8 undef = .pointer (some ⟨p, 0, none⟩) ∧ x.rowIs p 24 4 (u64s f) ∧ w.heap.size + 1 + 1 + 1 < p
  | 10, s, x => ∃ (p : Nat), s.tmps.getD 7 undef = .pointer (some ⟨p, 0, none⟩) ∧ x.rowIs p 53 8 (u64s (limb q)) ∧ w.heap.size + 1 + 1 + 1 < p
  | 11, s, x => ∃ (p : Nat), s.tmps.getD 8 undef = .pointer (some ⟨p, 0, none⟩) ∧ x.rowIs p 24 4 (u64s (limb r)) ∧ w.heap.size + 1 + 1 + 1 < p
  | _, _, _ => True
theorem FMm_big (w : World) (a b c pr q r : Nat) (j : Nat) (h : 12 ≤ j) (s : Act) (x : World) : FMm w a b c pr q r j s x := by
  match j, h with
  | j + 12, _ => trivial
def GMm (w : World) (a b c : Nat) (s : Act) (x : World) : Prop := ∃ s7 s8 s9 s10 s11 s12 s13 s14 s15 s16 s17 : Value,
  s = ⟨#[wv a, wv b, wv c, .pointer (some ⟨w.heap.size, 0, none⟩), .pointer (some ⟨w.heap.size + 1, 0, none⟩), .pointer (some ⟨w.heap.size + 1 + 1, 0, none⟩), .pointer (some ⟨w.heap.size + 1 + 1 + 1, 0, none⟩), s7, s8, s9, s10, s11, s12, s13, s14, s15, s16, s17], []⟩ ∧ S4 w a b c x
set_option maxRecDepth 100000 in
set_option maxHeartbeats 4000000 in
theorem mulmod_any (a b c : Nat) (w : World) : Calls Try.prog 35 #[wv a, wv b, wv c] w (Ret w (fmulmod (a % M) (b % M) (c % M))) := by
  obtain ⟨pr, HP⟩ : ∃ pr, Hid (pr = prodw a b) := ⟨_, rfl⟩
  obtain ⟨q, HQ⟩ : ∃ q, Hid (q = pr / (c % M)) := ⟨_, rfl⟩
  obtain ⟨r, HR⟩ : ∃ r, Hid (r = fmod pr (c % M)) := ⟨_, rfl⟩
  have hS := S4.start w a b c
  go_enter Try.func35, Try.ntmps35
  go_wp2
  refine wp_region_inv (by kernel_rfl) (GMm w a b c) (FMm w a b c pr q r) (hall_of (by kernel_rfl)) ?_ ?_ ?_
  · exact ⟨_, _, _, _, _, _, _, _, _, _, _, rfl, hS.drew⟩
  · intro i o ho s x hG hdep
    clear hS
    obtain ⟨s7, s8, s9, s10, s11, s12, s13, s14, s15, s16, s17, rfl, hs⟩ := hG
    have hi : i < 12 := (Array.getElem?_eq_some_iff.1 ho).1
    rcases i12 hi with rfl | rfl | rfl | rfl | rfl | rfl | rfl | rfl | rfl | rfl | rfl | rfl
    · obtain rfl := Option.some.inj (show some _ = some o from ho)
      refine wpOp_step rfl fun K hK => ?_
      obtain ⟨y0, y1, y2, y3⟩ := row_cells4 hs.ra
      go_simp
      refine hK _ _ ⟨⟨_, _, _, _, _, _, _, _, _, _, _, rfl, hs⟩, rfl, fun j hj hd hF => ?_⟩
      rcases Nat.lt_or_ge j 12 with hjn | hjn
      · rcases i12 hjn with rfl | rfl | rfl | rfl | rfl | rfl | rfl | rfl | rfl | rfl | rfl | rfl
        · exact absurd rfl hj
        · have h : s11 = wv b := hF; exact h
        · exfalso; revert hd; exact of_decide_eq_true (by kernel_rfl)
        · have h : s13 = wv c := hF; exact h
        · have h : s14 = .tuple #[wv8 q, wv r] := hF; exact h
        · have h : s9 = .tuple #[wv8 q, wv r] := hF; exact h
        · have h : s15 = wv8 q := hF; exact h
        · have h : s16 = wv r := hF; exact h
        · obtain ⟨p, f, h1, h2, h3⟩ := hF; exact ⟨p, f, h1, h2, h3⟩
        · obtain ⟨p, f, h1, h2, h3⟩ := hF; exact ⟨p, f, h1, h2, h3⟩
        · obtain ⟨p, h1, h2, h3⟩ := hF; exact ⟨p, h1, h2, h3⟩
        · obtain ⟨p, h1, h2, h3⟩ := hF; exact ⟨p, h1, h2, h3⟩
      · exact FMm_big _ _ _ _ _ _ _ _ hjn _ _
    · obtain rfl := Option.some.inj (show some _ = some o from ho)
      refine wpOp_step rfl fun K hK => ?_
      obtain ⟨y0, y1, y2, y3⟩ := row_cells4 hs.rb
      go_simp
      refine hK _ _ ⟨⟨_, _, _, _, _, _, _, _, _, _, _, rfl, hs⟩, rfl, fun j hj hd hF => ?_⟩
      rcases Nat.lt_or_ge j 12 with hjn | hjn
      · rcases i12 hjn with rfl | rfl | rfl | rfl | rfl | rfl | rfl | rfl | rfl | rfl | rfl | rfl
        · have h : s10 = wv a := hF; exact h
        · exact absurd rfl hj
        · exfalso; revert hd; exact of_decide_eq_true (by kernel_rfl)
        · have h : s13 = wv c := hF; exact h
        · have h : s14 = .tuple #[wv8 q, wv r] := hF; exact h
        · have h : s9 = .tuple #[wv8 q, wv r] := hF; exact h
        · have h : s15 = wv8 q := hF; exact h
        · have h : s16 = wv r := hF; exact h
        · obtain ⟨p, f, h1, h2, h3⟩ := hF; exact ⟨p, f, h1, h2, h3⟩
        · obtain ⟨p, f, h1, h2, h3⟩ := hF; exact ⟨p, f, h1, h2, h3⟩
        · obtain ⟨p, h1, h2, h3⟩ := hF; exact ⟨p, h1, h2, h3⟩
        · obtain ⟨p, h1, h2, h3⟩ := hF; exact ⟨p, h1, h2, h3⟩
      · exact FMm_big _ _ _ _ _ _ _ _ hjn _ _
    · obtain rfl := Option.some.inj (show some _ = some o from ho)
      refine wpOp_step rfl fun K hK => ?_
      have h0 : s10 = wv a := hdep ⟨0, .data⟩ (by simp) rfl
      subst h0
      have h1 : s11 = wv b := hdep ⟨1, .data⟩ (by simp) rfl
      subst h1
      go_simp
      refine (product_ex a b _).mono ?_
      rintro e y ⟨rr, HRR, rfl, hb⟩
      obtain rfl : rr = pr := HRR.out.trans HP.out.symm
      dsimp only
      refine hK _ _ ⟨⟨_, _, _, _, _, _, _, _, _, _, _, rfl, hs.call hb⟩, rfl, fun j hj hd hF => ?_⟩
      rcases Nat.lt_or_ge j 12 with hjn | hjn
      · rcases i12 hjn with rfl | rfl | rfl | rfl | rfl | rfl | rfl | rfl | rfl | rfl | rfl | rfl
        · exact (rfl : (wv a : Value) = wv a)
        · exact (rfl : (wv b : Value) = wv b)
        · exact absurd rfl hj
        · have h : s13 = wv c := hF; exact h
        · exfalso; revert hd; exact of_decide_eq_true (by kernel_rfl)
        · have h : s9 = .tuple #[wv8 q, wv r] := hF; exact h
        · have h : s15 = wv8 q := hF; exact h
        · have h : s16 = wv r := hF; exact h
        · obtain ⟨p, f, h1, h2, h3⟩ := hF; exact ⟨p, f, h1, row_below h2 hb, h3⟩
        · obtain ⟨p, f, h1, h2, h3⟩ := hF; exact ⟨p, f, h1, row_below h2 hb, h3⟩
        · obtain ⟨p, h1, h2, h3⟩ := hF; exact ⟨p, h1, row_below h2 hb, h3⟩
        · obtain ⟨p, h1, h2, h3⟩ := hF; exact ⟨p, h1, row_below h2 hb, h3⟩
      · exact FMm_big _ _ _ _ _ _ _ _ hjn _ _
    · obtain rfl := Option.some.inj (show some _ = some o from ho)
      refine wpOp_step rfl fun K hK => ?_
      obtain ⟨y0, y1, y2, y3⟩ := row_cells4 hs.rc
      go_simp
      refine hK _ _ ⟨⟨_, _, _, _, _, _, _, _, _, _, _, rfl, hs⟩, rfl, fun j hj hd hF => ?_⟩
      rcases Nat.lt_or_ge j 12 with hjn | hjn
      · rcases i12 hjn with rfl | rfl | rfl | rfl | rfl | rfl | rfl | rfl | rfl | rfl | rfl | rfl
        · have h : s10 = wv a := hF; exact h
        · have h : s11 = wv b := hF; exact h
        · have h : s12 = wv8 pr := hF; exact h
        · exact absurd rfl hj
        · exfalso; revert hd; exact of_decide_eq_true (by kernel_rfl)
        · have h : s9 = .tuple #[wv8 q, wv r] := hF; exact h
        · have h : s15 = wv8 q := hF; exact h
        · have h : s16 = wv r := hF; exact h
        · obtain ⟨p, f, h1, h2, h3⟩ := hF; exact ⟨p, f, h1, h2, h3⟩
        · obtain ⟨p, f, h1, h2, h3⟩ := hF; exact ⟨p, f, h1, h2, h3⟩
        · obtain ⟨p, h1, h2, h3⟩ := hF; exact ⟨p, h1, h2, h3⟩
        · obtain ⟨p, h1, h2, h3⟩ := hF; exact ⟨p, h1, h2, h3⟩
      · exact FMm_big _ _ _ _ _ _ _ _ hjn _ _
    · obtain rfl := Option.some.inj (show some _ = some o from ho)
      refine wpOp_step rfl fun K hK => ?_
      have h2 : s12 = wv8 pr := hdep ⟨2, .data⟩ (by simp) rfl
      subst h2
      have h3 : s13 = wv c := hdep ⟨3, .data⟩ (by simp) rfl
      subst h3
      go_simp
      refine (divide_ex pr c (by rw [HP.out]; exact prodw_lt a b) _).mono ?_
      rintro e y ⟨qq, rr, HQQ, HRR, rfl, hb⟩
      obtain rfl : q = qq := HQ.out.trans HQQ.out.symm
      obtain rfl : r = rr := HR.out.trans HRR.out.symm
      dsimp only
      refine hK _ _ ⟨⟨_, _, _, _, _, _, _, _, _, _, _, rfl, hs.call hb⟩, rfl, fun j hj hd hF => ?_⟩
      rcases Nat.lt_or_ge j 12 with hjn | hjn
      · rcases i12 hjn with rfl | rfl | rfl | rfl | rfl | rfl | rfl | rfl | rfl | rfl | rfl | rfl
        · have h : s10 = wv a := hF; exact h
        · have h : s11 = wv b := hF; exact h
        · exact (rfl : (wv8 pr : Value) = wv8 pr)
        · exact (rfl : (wv c : Value) = wv c)
        · exact absurd rfl hj
        · exfalso; revert hd; exact of_decide_eq_true (by kernel_rfl)
        · have h : s15 = wv8 q := hF; exact h
        · have h : s16 = wv r := hF; exact h
        · obtain ⟨p, f, h1, h2, h3⟩ := hF; exact ⟨p, f, h1, row_below h2 hb, h3⟩
        · obtain ⟨p, f, h1, h2, h3⟩ := hF; exact ⟨p, f, h1, row_below h2 hb, h3⟩
        · obtain ⟨p, h1, h2, h3⟩ := hF; exact ⟨p, h1, row_below h2 hb, h3⟩
        · obtain ⟨p, h1, h2, h3⟩ := hF; exact ⟨p, h1, row_below h2 hb, h3⟩
      · exact FMm_big _ _ _ _ _ _ _ _ hjn _ _
    · obtain rfl := Option.some.inj (show some _ = some o from ho)
      refine wpOp_step rfl fun K hK => ?_
      have h4 : s14 = .tuple #[wv8 q, wv r] := hdep ⟨4, .data⟩ (by simp) rfl
      subst h4
      go_simp
      refine hK _ _ ⟨⟨_, _, _, _, _, _, _, _, _, _, _, rfl, hs⟩, rfl, fun j hj hd hF => ?_⟩
      rcases Nat.lt_or_ge j 12 with hjn | hjn
      · rcases i12 hjn with rfl | rfl | rfl | rfl | rfl | rfl | rfl | rfl | rfl | rfl | rfl | rfl
        · have h : s10 = wv a := hF; exact h
        · have h : s11 = wv b := hF; exact h
        · have h : s12 = wv8 pr := hF; exact h
        · have h : s13 = wv c := hF; exact h
        · exact (rfl : (.tuple #[wv8 q, wv r] : Value) = .tuple #[wv8 q, wv r])
        · exact absurd rfl hj
        · exfalso; revert hd; exact of_decide_eq_true (by kernel_rfl)
        · exfalso; revert hd; exact of_decide_eq_true (by kernel_rfl)
        · obtain ⟨p, f, h1, h2, h3⟩ := hF; exact ⟨p, f, h1, h2, h3⟩
        · obtain ⟨p, f, h1, h2, h3⟩ := hF; exact ⟨p, f, h1, h2, h3⟩
        · obtain ⟨p, h1, h2, h3⟩ := hF; exact ⟨p, h1, h2, h3⟩
        · obtain ⟨p, h1, h2, h3⟩ := hF; exact ⟨p, h1, h2, h3⟩
      · exact FMm_big _ _ _ _ _ _ _ _ hjn _ _
    · obtain rfl := Option.some.inj (show some _ = some o from ho)
      refine wpOp_step rfl fun K hK => ?_
      have h5 : s9 = .tuple #[wv8 q, wv r] := hdep ⟨5, .data⟩ (by simp) rfl
      subst h5
      go_simp
      refine hK _ _ ⟨⟨_, _, _, _, _, _, _, _, _, _, _, rfl, hs⟩, rfl, fun j hj hd hF => ?_⟩
      rcases Nat.lt_or_ge j 12 with hjn | hjn
      · rcases i12 hjn with rfl | rfl | rfl | rfl | rfl | rfl | rfl | rfl | rfl | rfl | rfl | rfl
        · have h : s10 = wv a := hF; exact h
        · have h : s11 = wv b := hF; exact h
        · have h : s12 = wv8 pr := hF; exact h
        · have h : s13 = wv c := hF; exact h
        · have h : s14 = .tuple #[wv8 q, wv r] := hF; exact h
        · exact (rfl : (.tuple #[wv8 q, wv r] : Value) = .tuple #[wv8 q, wv r])
        · exact absurd rfl hj
        · have h : s16 = wv r := hF; exact h
        · obtain ⟨p, f, h1, h2, h3⟩ := hF; exact ⟨p, f, h1, h2, h3⟩
        · obtain ⟨p, f, h1, h2, h3⟩ := hF; exact ⟨p, f, h1, h2, h3⟩
        · exfalso; revert hd; exact of_decide_eq_true (by kernel_rfl)
        · obtain ⟨p, h1, h2, h3⟩ := hF; exact ⟨p, h1, h2, h3⟩
      · exact FMm_big _ _ _ _ _ _ _ _ hjn _ _
    · obtain rfl := Option.some.inj (show some _ = some o from ho)
      refine wpOp_step rfl fun K hK => ?_
      have h5 : s9 = .tuple #[wv8 q, wv r] := hdep ⟨5, .data⟩ (by simp) rfl
      subst h5
      go_simp
      refine hK _ _ ⟨⟨_, _, _, _, _, _, _, _, _, _, _, rfl, hs⟩, rfl, fun j hj hd hF => ?_⟩
      rcases Nat.lt_or_ge j 12 with hjn | hjn
      · rcases i12 hjn with rfl | rfl | rfl | rfl | rfl | rfl | rfl | rfl | rfl | rfl | rfl | rfl
        · have h : s10 = wv a := hF; exact h
        · have h : s11 = wv b := hF; exact h
        · have h : s12 = wv8 pr := hF; exact h
        · have h : s13 = wv c := hF; exact h
        · have h : s14 = .tuple #[wv8 q, wv r] := hF; exact h
        · exact (rfl : (.tuple #[wv8 q, wv r] : Value) = .tuple #[wv8 q, wv r])
        · have h : s15 = wv8 q := hF; exact h
        · exact absurd rfl hj
        · obtain ⟨p, f, h1, h2, h3⟩ := hF; exact ⟨p, f, h1, h2, h3⟩
        · obtain ⟨p, f, h1, h2, h3⟩ := hF; exact ⟨p, f, h1, h2, h3⟩
        · obtain ⟨p, h1, h2, h3⟩ := hF; exact ⟨p, h1, h2, h3⟩
        · exfalso; revert hd; exact of_decide_eq_true (by kernel_rfl)
      · exact FMm_big _ _ _ _ _ _ _ _ hjn _ _
    · obtain rfl := Option.some.inj (show some _ = some o from ho)
      refine wpOp_step rfl fun K hK => ?_
      have zz := hs.rz.lt
      go_simp
      refine hK _ _ ⟨⟨_, _, _, _, _, _, _, _, _, _, _, rfl, hs.alloc _⟩, ⟨_, fun _ => 0, rfl, row_lit8 _ rfl rfl rfl rfl rfl rfl rfl rfl rfl, zz⟩, fun j hj hd hF => ?_⟩
      rcases Nat.lt_or_ge j 12 with hjn | hjn
      · rcases i12 hjn with rfl | rfl | rfl | rfl | rfl | rfl | rfl | rfl | rfl | rfl | rfl | rfl
        · have h : s10 = wv a := hF; exact h
        · have h : s11 = wv b := hF; exact h
        · have h : s12 = wv8 pr := hF; exact h
        · have h : s13 = wv c := hF; exact h
        · have h : s14 = .tuple #[wv8 q, wv r] := hF; exact h
        · have h : s9 = .tuple #[wv8 q, wv r] := hF; exact h
        · have h : s15 = wv8 q := hF; exact h
        · have h : s16 = wv r := hF; exact h
        · exact absurd rfl hj
        · obtain ⟨p, f, h1, h2, h3⟩ := hF; exact ⟨p, f, h1, h2.alloc _, h3⟩
        · exfalso; revert hd; exact of_decide_eq_true (by kernel_rfl)
        · obtain ⟨p, h1, h2, h3⟩ := hF; exact ⟨p, h1, h2.alloc _, h3⟩
      · exact FMm_big _ _ _ _ _ _ _ _ hjn _ _
    · obtain rfl := Option.some.inj (show some _ = some o from ho)
      refine wpOp_step rfl fun K hK => ?_
      have zz := hs.rz.lt
      go_simp
      refine hK _ _ ⟨⟨_, _, _, _, _, _, _, _, _, _, _, rfl, hs.alloc _⟩, ⟨_, fun _ => 0, rfl, row_lit4 _ rfl rfl rfl rfl rfl, zz⟩, fun j hj hd hF => ?_⟩
      rcases Nat.lt_or_ge j 12 with hjn | hjn
      · rcases i12 hjn with rfl | rfl | rfl | rfl | rfl | rfl | rfl | rfl | rfl | rfl | rfl | rfl
        · have h : s10 = wv a := hF; exact h
        · have h : s11 = wv b := hF; exact h
        · have h : s12 = wv8 pr := hF; exact h
        · have h : s13 = wv c := hF; exact h
        · have h : s14 = .tuple #[wv8 q, wv r] := hF; exact h
        · have h : s9 = .tuple #[wv8 q, wv r] := hF; exact h
        · have h : s15 = wv8 q := hF; exact h
        · have h : s16 = wv r := hF; exact h
        · obtain ⟨p, f, h1, h2, h3⟩ := hF; exact ⟨p, f, h1, h2.alloc _, h3⟩
        · exact absurd rfl hj
        · obtain ⟨p, h1, h2, h3⟩ := hF; exact ⟨p, h1, h2.alloc _, h3⟩
        · exfalso; revert hd; exact of_decide_eq_true (by kernel_rfl)
      · exact FMm_big _ _ _ _ _ _ _ _ hjn _ _
    · obtain rfl := Option.some.inj (show some _ = some o from ho)
      refine wpOp_step rfl fun K hK => ?_
      have h8 : ∃ (p : Nat) (f : Nat → Int), s7 = .pointer (some ⟨p, 0, none⟩) ∧ x.rowIs p 53 8 (u64s f) ∧ w.heap.size + 1 + 1 + 1 < p := hdep ⟨8, .data⟩ (by simp) rfl
      have h6 : s15 = wv8 q := hdep ⟨6, .data⟩ (by simp) rfl
      subst h6
      obtain ⟨p7, f7, rfl, hr7, hl7⟩ := h8
      obtain ⟨y0, y1, y2, y3, y4, y5, y6, y7⟩ := row_cells8 hr7
      have fz := hr7.frozen
      go_simp
      refine hK _ _ ⟨⟨_, _, _, _, _, _, _, _, _, _, _, rfl, ((((((((hs.set hl7 _).set hl7 _).set hl7 _).set hl7 _).set hl7 _).set hl7 _).set hl7 _).set hl7 _)⟩, ⟨p7, rfl, row_put8 hr7 (limb q), hl7⟩, fun j hj hd hF => ?_⟩
      rcases Nat.lt_or_ge j 12 with hjn | hjn
      · rcases i12 hjn with rfl | rfl | rfl | rfl | rfl | rfl | rfl | rfl | rfl | rfl | rfl | rfl
        · have h : s10 = wv a := hF; exact h
        · have h : s11 = wv b := hF; exact h
        · have h : s12 = wv8 pr := hF; exact h
        · have h : s13 = wv c := hF; exact h
        · have h : s14 = .tuple #[wv8 q, wv r] := hF; exact h
        · have h : s9 = .tuple #[wv8 q, wv r] := hF; exact h
        · exact (rfl : (wv8 q : Value) = wv8 q)
        · have h : s16 = wv r := hF; exact h
        · exact ⟨p7, limb q, rfl, row_put8 hr7 (limb q), hl7⟩
        · obtain ⟨p, f, h1, h2, h3⟩ := hF; exact ⟨p, f, h1, row_keep8 h2 (row_ne h2 hr7 (by decide)) _ _ _ _ _ _ _ _, h3⟩
        · exact absurd rfl hj
        · obtain ⟨p, h1, h2, h3⟩ := hF; exact ⟨p, h1, row_keep8 h2 (row_ne h2 hr7 (by decide)) _ _ _ _ _ _ _ _, h3⟩
      · exact FMm_big _ _ _ _ _ _ _ _ hjn _ _
    · obtain rfl := Option.some.inj (show some _ = some o from ho)
      refine wpOp_step rfl fun K hK => ?_
      have h9 : ∃ (p : Nat) (f : Nat → Int), s8 = .pointer (some ⟨p, 0, none⟩) ∧ x.rowIs p 24 4 (u64s f) ∧ w.heap.size + 1 + 1 + 1 < p := hdep ⟨9, .data⟩ (by simp) rfl
      have h7 : s16 = wv r := hdep ⟨7, .data⟩ (by simp) rfl
      subst h7
      obtain ⟨p8, f8, rfl, hr8, hl8⟩ := h9
      obtain ⟨y0, y1, y2, y3⟩ := row_cells4 hr8
      have fz := hr8.frozen
      go_simp
      refine hK _ _ ⟨⟨_, _, _, _, _, _, _, _, _, _, _, rfl, ((((hs.set hl8 _).set hl8 _).set hl8 _).set hl8 _)⟩, ⟨p8, rfl, row_put4 hr8 (limb r) rfl rfl rfl rfl, hl8⟩, fun j hj hd hF => ?_⟩
      rcases Nat.lt_or_ge j 12 with hjn | hjn
      · rcases i12 hjn with rfl | rfl | rfl | rfl | rfl | rfl | rfl | rfl | rfl | rfl | rfl | rfl
        · have h : s10 = wv a := hF; exact h
        · have h : s11 = wv b := hF; exact h
        · have h : s12 = wv8 pr := hF; exact h
        · have h : s13 = wv c := hF; exact h
        · have h : s14 = .tuple #[wv8 q, wv r] := hF; exact h
        · have h : s9 = .tuple #[wv8 q, wv r] := hF; exact h
        · have h : s15 = wv8 q := hF; exact h
        · exact (rfl : (wv r : Value) = wv r)
        · obtain ⟨p, f, h1, h2, h3⟩ := hF; exact ⟨p, f, h1, row_keep4 h2 (row_ne h2 hr8 (by decide)) _ _ _ _, h3⟩
        · exact ⟨p8, limb r, rfl, row_put4 hr8 (limb r) rfl rfl rfl rfl, hl8⟩
        · obtain ⟨p, h1, h2, h3⟩ := hF; exact ⟨p, h1, row_keep4 h2 (row_ne h2 hr8 (by decide)) _ _ _ _, h3⟩
        · exact absurd rfl hj
      · exact FMm_big _ _ _ _ _ _ _ _ hjn _ _
  · intro s x hG hF
    clear hS
    obtain ⟨s7, s8, s9, s10, s11, s12, s13, s14, s15, s16, s17, rfl, hs⟩ := hG
    obtain ⟨p, rfl, hr, hl⟩ : ∃ (p : Nat), s8 = .pointer (some ⟨p, 0, none⟩) ∧ x.rowIs p 24 4 (u64s (limb r)) ∧ w.heap.size + 1 + 1 + 1 < p := hF 11 (by decide)
    clear hF
    obtain ⟨y0, y1, y2, y3⟩ := row_cells4 hr
    have hrz := hs.rz
    have hbel := hs.be
    have z' := hbel.size
    obtain ⟨x0, x1, x2, x3⟩ := row_cells4 hrz
    have fz := hrz.frozen
    go_wp2
    obtain ⟨q0, q1, q2, q3⟩ := row_cells4 (row_put4 hrz (limb r) rfl rfl rfl rfl)
    refine bodyPost_ret (v := wv r) (by simp [results, Try.results35, go_sem, q0, q1, q2, q3]) rfl (ret_mk (by rw [HR.out, HP.out]; rfl) ?_)
    exact below_put4 hbel (by omega) _ _ _ _
theorem sum_le (x n : Nat) (hn : 257 ≤ n) (h : x < 2 * M) : x < 2 ^ n := by
  have e : 2 * 2 ^ (n - 1) = 2 ^ n := by rw [Nat.mul_comm, ← Nat.pow_succ]; congr 1; omega
  have := M_le_pow (n - 1) (by omega)
  omega
theorem sum_lt (a b : Nat) : a % M + b % M < 2 ^ (64 * 8) := by
  have h1 := Nat.mod_lt a Mpos
  have h2 := Nat.mod_lt b Mpos
  have h := sum_le (a % M + b % M) (64 * 8) (by omega) (by omega)
  exact h
theorem limb_top (n j : Nat) (h : n < 2 * M) (hj : 5 ≤ j) : limb n j = 0 := by
  rw [limb_eq]
  unfold limbN
  rw [Nat.div_eq_of_lt (sum_le n (64 * j) (by omega) h)]
  rfl
theorem sum_wide (a b s k : Nat) (hs : s = a + b) (hk : k = cy a b 4) : limb s 0 = limb (a % M + b % M) 0 ∧ limb s 1 = limb (a % M + b % M) 1 ∧ limb s 2 = limb (a % M + b % M) 2 ∧ limb s 3 = limb (a % M + b % M) 3 ∧ (k : Int) = limb (a % M + b % M) 4 ∧ (0 : Int) = limb (a % M + b % M) 5 ∧ (0 : Int) = limb (a % M + b % M) 6 ∧ (0 : Int) = limb (a % M + b % M) 7 := by
  have h1 := Nat.mod_lt a Mpos
  have h2 := Nat.mod_lt b Mpos
  subst hs hk
  refine ⟨?_, ?_, ?_, ?_, ?_, (limb_top _ 5 (by omega) (by omega)).symm, (limb_top _ 6 (by omega) (by omega)).symm, (limb_top _ 7 (by omega) (by omega)).symm⟩
  · unfold limb M; rw [pw0]; omega
  · unfold limb M; rw [pw1]; omega
  · unfold limb M; rw [pw2]; omega
  · unfold limb M; rw [pw3]; omega
  · unfold limb cy M at *; rw [pw4]; omega
set_option maxRecDepth 100000 in
set_option maxHeartbeats 4000000 in
theorem addmod_any (a b c : Nat) (w : World) : Calls Try.prog 34 #[wv a, wv b, wv c] w (Ret w (faddmod (a % M) (b % M) (c % M))) := by
  have hs := S4.start w a b c
  go_enter Try.func34, Try.ntmps34
  go_wp2_with fail
  refine (carryAdd_ex a b _).mono ?_
  rintro e w1 ⟨s, k, HS, HK, rfl, hb⟩
  replace hs := hs.call hb
  clear hb
  go_wp2_with fail
  refine (widen_any (limb s 0) (limb s 1) (limb s 2) (limb s 3) _).mono ?_
  rintro e w2 ⟨rfl, hb⟩
  replace hs := (hs.alloc _).call hb
  clear hb
  obtain ⟨n, HN⟩ : ∃ n, Hid (n = a % M + b % M) := ⟨_, rfl⟩
  obtain ⟨g0, g1, g2, g3, g4, g5, g6, g7⟩ : limb s 0 = limb n 0 ∧ limb s 1 = limb n 1 ∧ limb s 2 = limb n 2 ∧ limb s 3 = limb n 3 ∧ (k : Int) = limb n 4 ∧ (0 : Int) = limb n 5 ∧ (0 : Int) = limb n 6 ∧ (0 : Int) = limb n 7 := by
    rw [HN.out]; exact sum_wide a b s k HS.out HK.out
  have G0 : Hid (limb s 0 = limb n 0) := g0
  have G1 : Hid (limb s 1 = limb n 1) := g1
  have G2 : Hid (limb s 2 = limb n 2) := g2
  have G3 : Hid (limb s 3 = limb n 3) := g3
  have G4 : Hid ((k : Int) = limb n 4) := g4
  have G5 : Hid ((0 : Int) = limb n 5) := g5
  have G6 : Hid ((0 : Int) = limb n 6) := g6
  have G7 : Hid ((0 : Int) = limb n 7) := g7
  clear g0 g1 g2 g3 g4 g5 g6 g7
  obtain ⟨c0, c1, c2, c3⟩ := row_cells4 hs.rc
  have zc := hs.rc.lt
  go_wp2_with fail
  have hw : Value.agg #[.int .u64 (limb s 0), .int .u64 (limb s 1), .int .u64 (limb s 2), .int .u64 (limb s 3), .int .u64 (k : Int), .int .u64 0, .int .u64 0, .int .u64 0] = wv8 n := by
    unfold wv8; rw [G0.out, G1.out, G2.out, G3.out, G4.out, ← G5.out, ← G6.out, ← G7.out]
  rw [hw]
  refine (divide_ex n c (by rw [HN.out]; exact sum_lt a b) _).mono ?_
  rintro e w3 ⟨q, r, HQ, HR, rfl, hb⟩
  replace hs := (hs.alloc _).call hb
  clear hb hw c0 c1 c2 c3 zc
  have hrz := hs.rz
  have hbel := hs.be
  have z := hrz.lt
  have z2 : w.heap.size + 1 + 1 + 1 < w3.heap.size + 1 := Nat.lt_succ_of_lt z
  have z' := hbel.size
  obtain ⟨x0, x1, x2, x3⟩ := row_cells4 hrz
  have fz := hrz.frozen
  go_wp2
  obtain ⟨q0, q1, q2, q3⟩ := row_cells4 (row_put4 hrz (limb r) rfl rfl rfl rfl)
  refine bodyPost_ret (v := wv r) (by simp [results, Try.results34, go_sem, q0, q1, q2, q3, z, z2]) rfl (ret_mk (by rw [HR.out, HN.out]; rfl) ?_)
  exact bal (bal (below_put4 hbel (by omega) _ _ _ _) _) _
end cin
end Go.Proofs.Ytohoajjdoihekaa
