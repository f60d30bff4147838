/-
  The walks of package word's operations: quotients and rests, signed ones too.
-/
import Derived.Test.YtohoajjdoihekaaWg
import Derived.Test.YtohoajjdoihekaaReg
set_option linter.unusedVariables false
set_option linter.unusedSimpArgs false
namespace Go.Proofs.Ytohoajjdoihekaa
open Go.RowKit
namespace cin
/-- what stays while a statement's operations come up in whatever order: the two words that came in, the result's place, all elder memory -/
structure SS (w : World) (a b : Nat) (x : World) : Prop where
  ra : x.rowIs w.heap.size 24 4 (u64s (limb a))
  rb : x.rowIs (w.heap.size + 1) 24 4 (u64s (limb b))
  rz : x.rowIs (w.heap.size + 1 + 1) 24 4 (u64s fun _ => 0)
  be : Below w.heap.size w x
theorem SS.drew {w : World} {a b : Nat} {x : World} (h : SS w a b x) : SS w a b x.drew := ⟨h.ra, h.rb, h.rz, h.be.drew⟩
theorem SS.alloc {w : World} {a b : Nat} {x : World} (h : SS w a b x) (o : Obj) : SS w a b (x.alloc o) := ⟨h.ra.alloc _, h.rb.alloc _, h.rz.alloc _, bal h.be _⟩
theorem SS.call {w : World} {a b : Nat} {x y : World} (h : SS w a b x) (hb : Below x.heap.size x y) : SS w a b y := ⟨row_below h.ra hb, row_below h.rb hb, row_below h.rz hb, bcall h.be hb⟩
theorem SS.set {w : World} {a b : Nat} {x : World} (h : SS w a b x) {p : Addr} (hp : w.heap.size + 1 + 1 < p.block) (v : Value) : SS w a b (x.setCell p v) :=
  ⟨h.ra.setOther (by omega) _, h.rb.setOther (by omega) _, h.rz.setOther (by omega) _, h.be.setCell (by omega) _⟩
theorem SS.start (w : World) (a b : Nat) : SS w a b (((w.alloc (.cells #[.int .u64 (limb a 0), .int .u64 (limb a 1), .int .u64 (limb a 2), .int .u64 (limb a 3)] 24)).alloc (.cells #[.int .u64 (limb b 0), .int .u64 (limb b 1), .int .u64 (limb b 2), .int .u64 (limb b 3)] 24)).alloc (.cells #[.int .u64 0, .int .u64 0, .int .u64 0, .int .u64 0] 24)) :=
  ⟨row_lit4 (limb a) rfl rfl rfl rfl rfl |>.alloc _ |>.alloc _, row_lit4 (limb b) (by simp) rfl rfl rfl rfl |>.alloc _, row_lit4 (fun _ => 0) (by simp) rfl rfl rfl rfl, bal (bal (bal (Below.refl _ _) _) _) _⟩
theorem i11 {i : Nat} (h : i < 11) : i = 0 ∨ i = 1 ∨ i = 2 ∨ i = 3 ∨ i = 4 ∨ i = 5 ∨ i = 6 ∨ i = 7 ∨ i = 8 ∨ i = 9 ∨ i = 10 := by omega
/-- what each operation of 'q, r := divide(widen(a), b)' leaves -/
def Fdiv (N a am b q r : Nat) : Nat → Act → World → Prop
  | 0, s, _ => s.tmps.getD 8 undef = wv a
  | 1, s, _ => s.tmps.getD 9 undef = wv8 am
  | 2, s, _ => s.tmps.getD 10 undef = wv b
  | 3, s, _ => s.tmps.getD 11 undef = .tuple #[wv8 q, wv r]
  | 4, s, _ => s.tmps.getD 7 undef = .tuple #[wv8 q, wv r]
  | 5, s, _ => s.tmps.getD 12 undef = wv8 q
  | 6, s, _ => s.tmps.getD 13 undef = wv r
  | 7, s, x => ∃ (p : Nat) (f : Nat → Int), s.tmps.getD 5 undef = .pointer (some ⟨p, 0, none⟩) ∧ x.rowIs p 53 8 (u64s f) ∧ N < p
  | 8, s, x => ∃ (p : Nat) (f : Nat → Int), s.tmps.getD 6 undef = .pointer (some ⟨p, 0, none⟩) ∧ x.rowIs p 24 4 (u64s f) ∧ N < p
  | 9, s, x => ∃ p : Nat, s.tmps.getD 5 undef = .pointer (some ⟨p, 0, none⟩) ∧ x.rowIs p 53 8 (u64s (limb q)) ∧ N < p
  | 10, s, x => ∃ p : Nat, s.tmps.getD 6 undef = .pointer (some ⟨p, 0, none⟩) ∧ x.rowIs p 24 4 (u64s (limb r)) ∧ N < p
  | _, _, _ => True
theorem Fdiv_big (N a am b q r j : Nat) (h : 11 ≤ j) (s : Act) (x : World) : Fdiv N a am b q r j s x := by
  match j, h with
  | j + 11, _ => trivial
/-- rows of two kinds don't lie in one block -/
theorem row_ne {x : World} {p p' : Nat} {t t' : TypeId} {n n' : Nat} {f f' : Nat → Value} (h : x.rowIs p t n f) (h' : x.rowIs p' t' n' f') (ht : t ≠ t') : p ≠ p' := by
  rintro rfl
  obtain ⟨c, hb, _, _⟩ := h
  obtain ⟨c', hb', _, _⟩ := h'
  rw [hb] at hb'
  injection hb' with e
  injection e with _ e2
  exact ht e2
def Gdiv (w : World) (a b : Nat) (s : Act) (x : World) : Prop := ∃ s5 s6 s7 s8 s9 s10 s11 s12 s13 : Value,
  s = ⟨#[wv a, wv b, .pointer (some ⟨w.heap.size, 0, none⟩), .pointer (some ⟨w.heap.size + 1, 0, none⟩), .pointer (some ⟨w.heap.size + 1 + 1, 0, none⟩), s5, s6, s7, s8, s9, s10, s11, s12, s13, undef, undef], []⟩ ∧ SS w a b x
def Gmod (w : World) (a b : Nat) (s : Act) (x : World) : Prop := ∃ s5 s6 s7 s8 s9 s10 s11 s12 s13 : Value,
  s = ⟨#[wv a, wv b, .pointer (some ⟨w.heap.size, 0, none⟩), .pointer (some ⟨w.heap.size + 1, 0, none⟩), .pointer (some ⟨w.heap.size + 1 + 1, 0, none⟩), s5, s6, s7, s8, s9, s10, s11, s12, s13, undef], []⟩ ∧ SS w a b x
set_option maxRecDepth 100000 in
set_option maxHeartbeats 4000000 in
theorem div_any (a b : Nat) (w : World) : Calls Try.prog 30 #[wv a, wv b] w (Ret w (fdiv (a % M) (b % M))) := by
  obtain ⟨am, HA⟩ : ∃ am, Hid (am = a % M) := ⟨_, rfl⟩
  obtain ⟨q, HQ⟩ : ∃ q, Hid (q = am / (b % M)) := ⟨_, rfl⟩
  obtain ⟨r, HR⟩ : ∃ r, Hid (r = fmod am (b % M)) := ⟨_, rfl⟩
  have hS := SS.start w a b
  go_enter Try.func30, Try.ntmps30
  go_wp2
  refine wp_region_inv (by kernel_rfl) (Gdiv w a b) (Fdiv (w.heap.size + 1 + 1) a am b q r) (hall_of (by kernel_rfl)) ?_ ?_ ?_
  · exact ⟨_, _, _, _, _, _, _, _, _, rfl, hS.drew⟩
  · intro i o ho s x hG hdep
    clear hS
    obtain ⟨s5, s6, s7, s8, s9, s10, s11, s12, s13, rfl, hs⟩ := hG
    have hi : i < 11 := (Array.getElem?_eq_some_iff.1 ho).1
    rcases i11 hi with rfl | rfl | rfl | rfl | rfl | rfl | rfl | rfl | rfl | rfl | rfl
    · obtain rfl := Option.some.inj (show some _ = some o from ho)
      refine wpOp_step rfl fun K hK => ?_
      obtain ⟨y0, y1, y2, y3⟩ := row_cells4 hs.ra
      go_simp
      refine hK _ _ ⟨⟨_, _, _, _, _, _, _, _, _, rfl, hs⟩, rfl, fun j hj hd hF => ?_⟩
      · rcases Nat.lt_or_ge j 11 with hj11 | hj11
        · rcases i11 hj11 with rfl | rfl | rfl | rfl | rfl | rfl | rfl | rfl | rfl | rfl | rfl
          all_goals first
            | exact absurd rfl hj
            | exact hF
            | (obtain ⟨p, f, h1, h2, h3⟩ := hF; exact ⟨p, f, h1, h2, h3⟩)
            | (obtain ⟨p, h1, h2, h3⟩ := hF; exact ⟨p, h1, h2, h3⟩)
            | (exfalso; revert hd; exact of_decide_eq_true (by kernel_rfl))
        · exact Fdiv_big _ _ _ _ _ _ _ hj11 _ _
    · obtain rfl := Option.some.inj (show some _ = some o from ho)
      refine wpOp_step rfl fun K hK => ?_
      have h0 : s8 = wv a := hdep ⟨0, .data⟩ (by simp) rfl
      subst h0
      go_simp
      refine (widen_w a _).mono ?_
      rintro e y ⟨rr, HRR, rfl, hb⟩
      obtain rfl : rr = am := HRR.out.trans HA.out.symm
      dsimp only
      refine hK _ _ ⟨⟨_, _, _, _, _, _, _, _, _, rfl, hs.call hb⟩, rfl, fun j hj hd hF => ?_⟩
      · rcases Nat.lt_or_ge j 11 with hj11 | hj11
        · rcases i11 hj11 with rfl | rfl | rfl | rfl | rfl | rfl | rfl | rfl | rfl | rfl | rfl
          all_goals first
            | exact absurd rfl hj
            | exact hF
            | (obtain ⟨p, f, h1, h2, h3⟩ := hF; exact ⟨p, f, h1, row_below h2 hb, h3⟩)
            | (obtain ⟨p, h1, h2, h3⟩ := hF; exact ⟨p, h1, row_below h2 hb, h3⟩)
            | (exfalso; revert hd; exact of_decide_eq_true (by kernel_rfl))
        · exact Fdiv_big _ _ _ _ _ _ _ hj11 _ _
    · obtain rfl := Option.some.inj (show some _ = some o from ho)
      refine wpOp_step rfl fun K hK => ?_
      obtain ⟨y0, y1, y2, y3⟩ := row_cells4 hs.rb
      go_simp
      refine hK _ _ ⟨⟨_, _, _, _, _, _, _, _, _, rfl, hs⟩, rfl, fun j hj hd hF => ?_⟩
      · rcases Nat.lt_or_ge j 11 with hj11 | hj11
        · rcases i11 hj11 with rfl | rfl | rfl | rfl | rfl | rfl | rfl | rfl | rfl | rfl | rfl
          all_goals first
            | exact absurd rfl hj
            | exact hF
            | (obtain ⟨p, f, h1, h2, h3⟩ := hF; exact ⟨p, f, h1, h2, h3⟩)
            | (obtain ⟨p, h1, h2, h3⟩ := hF; exact ⟨p, h1, h2, h3⟩)
            | (exfalso; revert hd; exact of_decide_eq_true (by kernel_rfl))
        · exact Fdiv_big _ _ _ _ _ _ _ hj11 _ _
    · obtain rfl := Option.some.inj (show some _ = some o from ho)
      refine wpOp_step rfl fun K hK => ?_
      have h0 : s9 = wv8 am := hdep ⟨1, .data⟩ (by simp) rfl
      have h2 : s10 = wv b := hdep ⟨2, .data⟩ (by simp) rfl
      subst h0 h2
      go_simp
      refine (divide_ex am b (by rw [HA.out]; exact lt512 a) _).mono ?_
      rintro e y ⟨qq, rr, HQQ, HRR, rfl, hb⟩
      obtain rfl : qq = q := HQQ.out.trans HQ.out.symm
      obtain rfl : rr = r := HRR.out.trans HR.out.symm
      dsimp only
      refine hK _ _ ⟨⟨_, _, _, _, _, _, _, _, _, rfl, hs.call hb⟩, rfl, fun j hj hd hF => ?_⟩
      · rcases Nat.lt_or_ge j 11 with hj11 | hj11
        · rcases i11 hj11 with rfl | rfl | rfl | rfl | rfl | rfl | rfl | rfl | rfl | rfl | rfl
          all_goals first
            | exact absurd rfl hj
            | exact hF
            | (obtain ⟨p, f, h1, h2, h3⟩ := hF; exact ⟨p, f, h1, row_below h2 hb, h3⟩)
            | (obtain ⟨p, h1, h2, h3⟩ := hF; exact ⟨p, h1, row_below h2 hb, h3⟩)
            | (exfalso; revert hd; exact of_decide_eq_true (by kernel_rfl))
        · exact Fdiv_big _ _ _ _ _ _ _ hj11 _ _
    · obtain rfl := Option.some.inj (show some _ = some o from ho)
      refine wpOp_step rfl fun K hK => ?_
      have h0 : s11 = .tuple #[wv8 q, wv r] := hdep ⟨3, .data⟩ (by simp) rfl
      subst h0
      go_simp
      refine hK _ _ ⟨⟨_, _, _, _, _, _, _, _, _, rfl, hs⟩, rfl, fun j hj hd hF => ?_⟩
      · rcases Nat.lt_or_ge j 11 with hj11 | hj11
        · rcases i11 hj11 with rfl | rfl | rfl | rfl | rfl | rfl | rfl | rfl | rfl | rfl | rfl
          all_goals first
            | exact absurd rfl hj
            | exact hF
            | (obtain ⟨p, f, h1, h2, h3⟩ := hF; exact ⟨p, f, h1, h2, h3⟩)
            | (obtain ⟨p, h1, h2, h3⟩ := hF; exact ⟨p, h1, h2, h3⟩)
            | (exfalso; revert hd; exact of_decide_eq_true (by kernel_rfl))
        · exact Fdiv_big _ _ _ _ _ _ _ hj11 _ _
    · obtain rfl := Option.some.inj (show some _ = some o from ho)
      refine wpOp_step rfl fun K hK => ?_
      have h0 : s7 = .tuple #[wv8 q, wv r] := hdep ⟨4, .data⟩ (by simp) rfl
      subst h0
      go_simp
      refine hK _ _ ⟨⟨_, _, _, _, _, _, _, _, _, rfl, hs⟩, rfl, fun j hj hd hF => ?_⟩
      · rcases Nat.lt_or_ge j 11 with hj11 | hj11
        · rcases i11 hj11 with rfl | rfl | rfl | rfl | rfl | rfl | rfl | rfl | rfl | rfl | rfl
          all_goals first
            | exact absurd rfl hj
            | exact hF
            | (obtain ⟨p, f, h1, h2, h3⟩ := hF; exact ⟨p, f, h1, h2, h3⟩)
            | (obtain ⟨p, h1, h2, h3⟩ := hF; exact ⟨p, h1, h2, h3⟩)
            | (exfalso; revert hd; exact of_decide_eq_true (by kernel_rfl))
        · exact Fdiv_big _ _ _ _ _ _ _ hj11 _ _
    · obtain rfl := Option.some.inj (show some _ = some o from ho)
      refine wpOp_step rfl fun K hK => ?_
      have h0 : s7 = .tuple #[wv8 q, wv r] := hdep ⟨4, .data⟩ (by simp) rfl
      subst h0
      go_simp
      refine hK _ _ ⟨⟨_, _, _, _, _, _, _, _, _, rfl, hs⟩, rfl, fun j hj hd hF => ?_⟩
      · rcases Nat.lt_or_ge j 11 with hj11 | hj11
        · rcases i11 hj11 with rfl | rfl | rfl | rfl | rfl | rfl | rfl | rfl | rfl | rfl | rfl
          all_goals first
            | exact absurd rfl hj
            | exact hF
            | (obtain ⟨p, f, h1, h2, h3⟩ := hF; exact ⟨p, f, h1, h2, h3⟩)
            | (obtain ⟨p, h1, h2, h3⟩ := hF; exact ⟨p, h1, h2, h3⟩)
            | (exfalso; revert hd; exact of_decide_eq_true (by kernel_rfl))
        · exact Fdiv_big _ _ _ _ _ _ _ hj11 _ _
    · obtain rfl := Option.some.inj (show some _ = some o from ho)
      refine wpOp_step rfl fun K hK => ?_
      have zz := hs.rz.lt
      go_simp
      refine hK _ _ ⟨⟨_, _, _, _, _, _, _, _, _, rfl, hs.alloc _⟩, ⟨_, fun _ => 0, rfl, row_lit8 _ rfl rfl rfl rfl rfl rfl rfl rfl rfl, zz⟩, fun j hj hd hF => ?_⟩
      · rcases Nat.lt_or_ge j 11 with hj11 | hj11
        · rcases i11 hj11 with rfl | rfl | rfl | rfl | rfl | rfl | rfl | rfl | rfl | rfl | rfl
          all_goals first
            | exact absurd rfl hj
            | exact hF
            | (obtain ⟨p, f, h1, h2, h3⟩ := hF; exact ⟨p, f, h1, h2.alloc _, h3⟩)
            | (obtain ⟨p, h1, h2, h3⟩ := hF; exact ⟨p, h1, h2.alloc _, h3⟩)
            | (exfalso; revert hd; exact of_decide_eq_true (by kernel_rfl))
        · exact Fdiv_big _ _ _ _ _ _ _ hj11 _ _
    · obtain rfl := Option.some.inj (show some _ = some o from ho)
      refine wpOp_step rfl fun K hK => ?_
      have zz := hs.rz.lt
      go_simp
      refine hK _ _ ⟨⟨_, _, _, _, _, _, _, _, _, rfl, hs.alloc _⟩, ⟨_, fun _ => 0, rfl, row_lit4 _ rfl rfl rfl rfl rfl, zz⟩, fun j hj hd hF => ?_⟩
      · rcases Nat.lt_or_ge j 11 with hj11 | hj11
        · rcases i11 hj11 with rfl | rfl | rfl | rfl | rfl | rfl | rfl | rfl | rfl | rfl | rfl
          all_goals first
            | exact absurd rfl hj
            | exact hF
            | (obtain ⟨p, f, h1, h2, h3⟩ := hF; exact ⟨p, f, h1, h2.alloc _, h3⟩)
            | (obtain ⟨p, h1, h2, h3⟩ := hF; exact ⟨p, h1, h2.alloc _, h3⟩)
            | (exfalso; revert hd; exact of_decide_eq_true (by kernel_rfl))
        · exact Fdiv_big _ _ _ _ _ _ _ hj11 _ _
    · obtain rfl := Option.some.inj (show some _ = some o from ho)
      refine wpOp_step rfl fun K hK => ?_
      have h7 : ∃ (p : Nat) (f : Nat → Int), s5 = .pointer (some ⟨p, 0, none⟩) ∧ x.rowIs p 53 8 (u64s f) ∧ w.heap.size + 1 + 1 < p := hdep ⟨7, .data⟩ (by simp) rfl
      have h0 : s12 = wv8 q := hdep ⟨5, .data⟩ (by simp) rfl
      obtain ⟨p5, f5, rfl, hr5, hl5⟩ := h7
      subst h0
      obtain ⟨y0, y1, y2, y3, y4, y5, y6, y7⟩ := row_cells8 hr5
      have fz := hr5.frozen
      go_simp
      refine hK _ _ ⟨⟨_, _, _, _, _, _, _, _, _, rfl, ((((((((hs.set hl5 _).set hl5 _).set hl5 _).set hl5 _).set hl5 _).set hl5 _).set hl5 _).set hl5 _)⟩, ⟨p5, rfl, row_put8 hr5 (limb q), hl5⟩, fun j hj hd hF => ?_⟩
      · rcases Nat.lt_or_ge j 11 with hj11 | hj11
        · rcases i11 hj11 with rfl | rfl | rfl | rfl | rfl | rfl | rfl | rfl | rfl | rfl | rfl
          · have h : s8 = wv a := hF; exact h
          · have h : s9 = wv8 am := hF; exact h
          · have h : s10 = wv b := hF; exact h
          · have h : s11 = .tuple #[wv8 q, wv r] := hF; exact h
          · have h : s7 = .tuple #[wv8 q, wv r] := hF; exact h
          · exact (rfl : wv8 q = wv8 q)
          · have h : s13 = wv r := hF; exact h
          · exact ⟨p5, limb q, rfl, row_put8 hr5 (limb q), hl5⟩
          · obtain ⟨p, f, h1, h2, h3⟩ := hF; exact ⟨p, f, h1, row_keep8 h2 (row_ne h2 hr5 (by decide)) _ _ _ _ _ _ _ _, h3⟩
          · exact absurd rfl hj
          · obtain ⟨p, h1, h2, h3⟩ := hF; exact ⟨p, h1, row_keep8 h2 (row_ne h2 hr5 (by decide)) _ _ _ _ _ _ _ _, h3⟩
        · exact Fdiv_big _ _ _ _ _ _ _ hj11 _ _
    · obtain rfl := Option.some.inj (show some _ = some o from ho)
      refine wpOp_step rfl fun K hK => ?_
      have h8 : ∃ (p : Nat) (f : Nat → Int), s6 = .pointer (some ⟨p, 0, none⟩) ∧ x.rowIs p 24 4 (u64s f) ∧ w.heap.size + 1 + 1 < p := hdep ⟨8, .data⟩ (by simp) rfl
      have h0 : s13 = wv r := hdep ⟨6, .data⟩ (by simp) rfl
      obtain ⟨p6, f6, rfl, hr6, hl6⟩ := h8
      subst h0
      obtain ⟨y0, y1, y2, y3⟩ := row_cells4 hr6
      have fz := hr6.frozen
      go_simp
      refine hK _ _ ⟨⟨_, _, _, _, _, _, _, _, _, rfl, ((((hs.set hl6 _).set hl6 _).set hl6 _).set hl6 _)⟩, ⟨p6, rfl, row_put4 hr6 (limb r) rfl rfl rfl rfl, hl6⟩, fun j hj hd hF => ?_⟩
      · rcases Nat.lt_or_ge j 11 with hj11 | hj11
        · rcases i11 hj11 with rfl | rfl | rfl | rfl | rfl | rfl | rfl | rfl | rfl | rfl | rfl
          · have h : s8 = wv a := hF; exact h
          · have h : s9 = wv8 am := hF; exact h
          · have h : s10 = wv b := hF; exact h
          · have h : s11 = .tuple #[wv8 q, wv r] := hF; exact h
          · have h : s7 = .tuple #[wv8 q, wv r] := hF; exact h
          · have h : s12 = wv8 q := hF; exact h
          · exact (rfl : wv r = wv r)
          · obtain ⟨p, f, h1, h2, h3⟩ := hF; exact ⟨p, f, h1, row_keep4 h2 (row_ne h2 hr6 (by decide)) _ _ _ _, h3⟩
          · exact ⟨p6, limb r, rfl, row_put4 hr6 (limb r) rfl rfl rfl rfl, hl6⟩
          · obtain ⟨p, h1, h2, h3⟩ := hF; exact ⟨p, h1, row_keep4 h2 (row_ne h2 hr6 (by decide)) _ _ _ _, h3⟩
          · exact absurd rfl hj
        · exact Fdiv_big _ _ _ _ _ _ _ hj11 _ _
  · intro s x hG hF
    clear hS
    obtain ⟨s5, s6, s7, s8, s9, s10, s11, s12, s13, rfl, hs⟩ := hG
    obtain ⟨p, rfl, hr, hl⟩ : ∃ p : Nat, s5 = .pointer (some ⟨p, 0, none⟩) ∧ x.rowIs p 53 8 (u64s (limb q)) ∧ w.heap.size + 1 + 1 < p := hF 9 (by decide)
    clear hF
    obtain ⟨y0, y1, y2, y3, y4, y5, y6, y7⟩ := row_cells8 hr
    go_wp2_with fail
    refine (low_w q _).mono ?_
    rintro e w2 ⟨rfl, hb⟩
    have hrz := row_below hs.rz hb
    have hbel := bcall hs.be hb
    have z := hrz.lt
    have z' := hbel.size
    obtain ⟨x0, x1, x2, x3⟩ := row_cells4 hrz
    have fz := hrz.frozen
    clear hb
    go_wp2
    obtain ⟨q0, q1, q2, q3⟩ := row_cells4 (row_put4 hrz (limb q) rfl rfl rfl rfl)
    refine bodyPost_ret (v := wv q) (by simp [results, Try.results30, go_sem, q0, q1, q2, q3, z]) rfl (ret_mk (by rw [HQ.out, HA.out]; rfl) ?_)
    exact below_put4 hbel (by omega) _ _ _ _
set_option maxRecDepth 100000 in
set_option maxHeartbeats 4000000 in
theorem mod_any (a b : Nat) (w : World) : Calls Try.prog 32 #[wv a, wv b] w (Ret w (fmod (a % M) (b % M))) := by
  obtain ⟨am, HA⟩ : ∃ am, Hid (am = a % M) := ⟨_, rfl⟩
  obtain ⟨q, HQ⟩ : ∃ q, Hid (q = am / (b % M)) := ⟨_, rfl⟩
  obtain ⟨r, HR⟩ : ∃ r, Hid (r = fmod am (b % M)) := ⟨_, rfl⟩
  have hS := SS.start w a b
  go_enter Try.func32, Try.ntmps32
  go_wp2
  refine wp_region_inv (by kernel_rfl) (Gmod w a b) (Fdiv (w.heap.size + 1 + 1) a am b q r) (hall_of (by kernel_rfl)) ?_ ?_ ?_
  · exact ⟨_, _, _, _, _, _, _, _, _, rfl, hS.drew⟩
  · intro i o ho s x hG hdep
    clear hS
    obtain ⟨s5, s6, s7, s8, s9, s10, s11, s12, s13, rfl, hs⟩ := hG
    have hi : i < 11 := (Array.getElem?_eq_some_iff.1 ho).1
    rcases i11 hi with rfl | rfl | rfl | rfl | rfl | rfl | rfl | rfl | rfl | rfl | rfl
    · obtain rfl := Option.some.inj (show some _ = some o from ho)
      refine wpOp_step rfl fun K hK => ?_
      obtain ⟨y0, y1, y2, y3⟩ := row_cells4 hs.ra
      go_simp
      refine hK _ _ ⟨⟨_, _, _, _, _, _, _, _, _, rfl, hs⟩, rfl, fun j hj hd hF => ?_⟩
      · rcases Nat.lt_or_ge j 11 with hj11 | hj11
        · rcases i11 hj11 with rfl | rfl | rfl | rfl | rfl | rfl | rfl | rfl | rfl | rfl | rfl
          all_goals first
            | exact absurd rfl hj
            | exact hF
            | (obtain ⟨p, f, h1, h2, h3⟩ := hF; exact ⟨p, f, h1, h2, h3⟩)
            | (obtain ⟨p, h1, h2, h3⟩ := hF; exact ⟨p, h1, h2, h3⟩)
            | (exfalso; revert hd; exact of_decide_eq_true (by kernel_rfl))
        · exact Fdiv_big _ _ _ _ _ _ _ hj11 _ _
    · obtain rfl := Option.some.inj (show some _ = some o from ho)
      refine wpOp_step rfl fun K hK => ?_
      have h0 : s8 = wv a := hdep ⟨0, .data⟩ (by simp) rfl
      subst h0
      go_simp
      refine (widen_w a _).mono ?_
      rintro e y ⟨rr, HRR, rfl, hb⟩
      obtain rfl : rr = am := HRR.out.trans HA.out.symm
      dsimp only
      refine hK _ _ ⟨⟨_, _, _, _, _, _, _, _, _, rfl, hs.call hb⟩, rfl, fun j hj hd hF => ?_⟩
      · rcases Nat.lt_or_ge j 11 with hj11 | hj11
        · rcases i11 hj11 with rfl | rfl | rfl | rfl | rfl | rfl | rfl | rfl | rfl | rfl | rfl
          all_goals first
            | exact absurd rfl hj
            | exact hF
            | (obtain ⟨p, f, h1, h2, h3⟩ := hF; exact ⟨p, f, h1, row_below h2 hb, h3⟩)
            | (obtain ⟨p, h1, h2, h3⟩ := hF; exact ⟨p, h1, row_below h2 hb, h3⟩)
            | (exfalso; revert hd; exact of_decide_eq_true (by kernel_rfl))
        · exact Fdiv_big _ _ _ _ _ _ _ hj11 _ _
    · obtain rfl := Option.some.inj (show some _ = some o from ho)
      refine wpOp_step rfl fun K hK => ?_
      obtain ⟨y0, y1, y2, y3⟩ := row_cells4 hs.rb
      go_simp
      refine hK _ _ ⟨⟨_, _, _, _, _, _, _, _, _, rfl, hs⟩, rfl, fun j hj hd hF => ?_⟩
      · rcases Nat.lt_or_ge j 11 with hj11 | hj11
        · rcases i11 hj11 with rfl | rfl | rfl | rfl | rfl | rfl | rfl | rfl | rfl | rfl | rfl
          all_goals first
            | exact absurd rfl hj
            | exact hF
            | (obtain ⟨p, f, h1, h2, h3⟩ := hF; exact ⟨p, f, h1, h2, h3⟩)
            | (obtain ⟨p, h1, h2, h3⟩ := hF; exact ⟨p, h1, h2, h3⟩)
            | (exfalso; revert hd; exact of_decide_eq_true (by kernel_rfl))
        · exact Fdiv_big _ _ _ _ _ _ _ hj11 _ _
    · obtain rfl := Option.some.inj (show some _ = some o from ho)
      refine wpOp_step rfl fun K hK => ?_
      have h0 : s9 = wv8 am := hdep ⟨1, .data⟩ (by simp) rfl
      have h2 : s10 = wv b := hdep ⟨2, .data⟩ (by simp) rfl
      subst h0 h2
      go_simp
      refine (divide_ex am b (by rw [HA.out]; exact lt512 a) _).mono ?_
      rintro e y ⟨qq, rr, HQQ, HRR, rfl, hb⟩
      obtain rfl : qq = q := HQQ.out.trans HQ.out.symm
      obtain rfl : rr = r := HRR.out.trans HR.out.symm
      dsimp only
      refine hK _ _ ⟨⟨_, _, _, _, _, _, _, _, _, rfl, hs.call hb⟩, rfl, fun j hj hd hF => ?_⟩
      · rcases Nat.lt_or_ge j 11 with hj11 | hj11
        · rcases i11 hj11 with rfl | rfl | rfl | rfl | rfl | rfl | rfl | rfl | rfl | rfl | rfl
          all_goals first
            | exact absurd rfl hj
            | exact hF
            | (obtain ⟨p, f, h1, h2, h3⟩ := hF; exact ⟨p, f, h1, row_below h2 hb, h3⟩)
            | (obtain ⟨p, h1, h2, h3⟩ := hF; exact ⟨p, h1, row_below h2 hb, h3⟩)
            | (exfalso; revert hd; exact of_decide_eq_true (by kernel_rfl))
        · exact Fdiv_big _ _ _ _ _ _ _ hj11 _ _
    · obtain rfl := Option.some.inj (show some _ = some o from ho)
      refine wpOp_step rfl fun K hK => ?_
      have h0 : s11 = .tuple #[wv8 q, wv r] := hdep ⟨3, .data⟩ (by simp) rfl
      subst h0
      go_simp
      refine hK _ _ ⟨⟨_, _, _, _, _, _, _, _, _, rfl, hs⟩, rfl, fun j hj hd hF => ?_⟩
      · rcases Nat.lt_or_ge j 11 with hj11 | hj11
        · rcases i11 hj11 with rfl | rfl | rfl | rfl | rfl | rfl | rfl | rfl | rfl | rfl | rfl
          all_goals first
            | exact absurd rfl hj
            | exact hF
            | (obtain ⟨p, f, h1, h2, h3⟩ := hF; exact ⟨p, f, h1, h2, h3⟩)
            | (obtain ⟨p, h1, h2, h3⟩ := hF; exact ⟨p, h1, h2, h3⟩)
            | (exfalso; revert hd; exact of_decide_eq_true (by kernel_rfl))
        · exact Fdiv_big _ _ _ _ _ _ _ hj11 _ _
    · obtain rfl := Option.some.inj (show some _ = some o from ho)
      refine wpOp_step rfl fun K hK => ?_
      have h0 : s7 = .tuple #[wv8 q, wv r] := hdep ⟨4, .data⟩ (by simp) rfl
      subst h0
      go_simp
      refine hK _ _ ⟨⟨_, _, _, _, _, _, _, _, _, rfl, hs⟩, rfl, fun j hj hd hF => ?_⟩
      · rcases Nat.lt_or_ge j 11 with hj11 | hj11
        · rcases i11 hj11 with rfl | rfl | rfl | rfl | rfl | rfl | rfl | rfl | rfl | rfl | rfl
          all_goals first
            | exact absurd rfl hj
            | exact hF
            | (obtain ⟨p, f, h1, h2, h3⟩ := hF; exact ⟨p, f, h1, h2, h3⟩)
            | (obtain ⟨p, h1, h2, h3⟩ := hF; exact ⟨p, h1, h2, h3⟩)
            | (exfalso; revert hd; exact of_decide_eq_true (by kernel_rfl))
        · exact Fdiv_big _ _ _ _ _ _ _ hj11 _ _
    · obtain rfl := Option.some.inj (show some _ = some o from ho)
      refine wpOp_step rfl fun K hK => ?_
      have h0 : s7 = .tuple #[wv8 q, wv r] := hdep ⟨4, .data⟩ (by simp) rfl
      subst h0
      go_simp
      refine hK _ _ ⟨⟨_, _, _, _, _, _, _, _, _, rfl, hs⟩, rfl, fun j hj hd hF => ?_⟩
      · rcases Nat.lt_or_ge j 11 with hj11 | hj11
        · rcases i11 hj11 with rfl | rfl | rfl | rfl | rfl | rfl | rfl | rfl | rfl | rfl | rfl
          all_goals first
            | exact absurd rfl hj
            | exact hF
            | (obtain ⟨p, f, h1, h2, h3⟩ := hF; exact ⟨p, f, h1, h2, h3⟩)
            | (obtain ⟨p, h1, h2, h3⟩ := hF; exact ⟨p, h1, h2, h3⟩)
            | (exfalso; revert hd; exact of_decide_eq_true (by kernel_rfl))
        · exact Fdiv_big _ _ _ _ _ _ _ hj11 _ _
    · obtain rfl := Option.some.inj (show some _ = some o from ho)
      refine wpOp_step rfl fun K hK => ?_
      have zz := hs.rz.lt
      go_simp
      refine hK _ _ ⟨⟨_, _, _, _, _, _, _, _, _, rfl, hs.alloc _⟩, ⟨_, fun _ => 0, rfl, row_lit8 _ rfl rfl rfl rfl rfl rfl rfl rfl rfl, zz⟩, fun j hj hd hF => ?_⟩
      · rcases Nat.lt_or_ge j 11 with hj11 | hj11
        · rcases i11 hj11 with rfl | rfl | rfl | rfl | rfl | rfl | rfl | rfl | rfl | rfl | rfl
          all_goals first
            | exact absurd rfl hj
            | exact hF
            | (obtain ⟨p, f, h1, h2, h3⟩ := hF; exact ⟨p, f, h1, h2.alloc _, h3⟩)
            | (obtain ⟨p, h1, h2, h3⟩ := hF; exact ⟨p, h1, h2.alloc _, h3⟩)
            | (exfalso; revert hd; exact of_decide_eq_true (by kernel_rfl))
        · exact Fdiv_big _ _ _ _ _ _ _ hj11 _ _
    · obtain rfl := Option.some.inj (show some _ = some o from ho)
      refine wpOp_step rfl fun K hK => ?_
      have zz := hs.rz.lt
      go_simp
      refine hK _ _ ⟨⟨_, _, _, _, _, _, _, _, _, rfl, hs.alloc _⟩, ⟨_, fun _ => 0, rfl, row_lit4 _ rfl rfl rfl rfl rfl, zz⟩, fun j hj hd hF => ?_⟩
      · rcases Nat.lt_or_ge j 11 with hj11 | hj11
        · rcases i11 hj11 with rfl | rfl | rfl | rfl | rfl | rfl | rfl | rfl | rfl | rfl | rfl
          all_goals first
            | exact absurd rfl hj
            | exact hF
            | (obtain ⟨p, f, h1, h2, h3⟩ := hF; exact ⟨p, f, h1, h2.alloc _, h3⟩)
            | (obtain ⟨p, h1, h2, h3⟩ := hF; exact ⟨p, h1, h2.alloc _, h3⟩)
            | (exfalso; revert hd; exact of_decide_eq_true (by kernel_rfl))
        · exact Fdiv_big _ _ _ _ _ _ _ hj11 _ _
    · obtain rfl := Option.some.inj (show some _ = some o from ho)
      refine wpOp_step rfl fun K hK => ?_
      have h7 : ∃ (p : Nat) (f : Nat → Int), s5 = .pointer (some ⟨p, 0, none⟩) ∧ x.rowIs p 53 8 (u64s f) ∧ w.heap.size + 1 + 1 < p := hdep ⟨7, .data⟩ (by simp) rfl
      have h0 : s12 = wv8 q := hdep ⟨5, .data⟩ (by simp) rfl
      obtain ⟨p5, f5, rfl, hr5, hl5⟩ := h7
      subst h0
      obtain ⟨y0, y1, y2, y3, y4, y5, y6, y7⟩ := row_cells8 hr5
      have fz := hr5.frozen
      go_simp
      refine hK _ _ ⟨⟨_, _, _, _, _, _, _, _, _, rfl, ((((((((hs.set hl5 _).set hl5 _).set hl5 _).set hl5 _).set hl5 _).set hl5 _).set hl5 _).set hl5 _)⟩, ⟨p5, rfl, row_put8 hr5 (limb q), hl5⟩, fun j hj hd hF => ?_⟩
      · rcases Nat.lt_or_ge j 11 with hj11 | hj11
        · rcases i11 hj11 with rfl | rfl | rfl | rfl | rfl | rfl | rfl | rfl | rfl | rfl | rfl
          · have h : s8 = wv a := hF; exact h
          · have h : s9 = wv8 am := hF; exact h
          · have h : s10 = wv b := hF; exact h
          · have h : s11 = .tuple #[wv8 q, wv r] := hF; exact h
          · have h : s7 = .tuple #[wv8 q, wv r] := hF; exact h
          · exact (rfl : wv8 q = wv8 q)
          · have h : s13 = wv r := hF; exact h
          · exact ⟨p5, limb q, rfl, row_put8 hr5 (limb q), hl5⟩
          · obtain ⟨p, f, h1, h2, h3⟩ := hF; exact ⟨p, f, h1, row_keep8 h2 (row_ne h2 hr5 (by decide)) _ _ _ _ _ _ _ _, h3⟩
          · exact absurd rfl hj
          · obtain ⟨p, h1, h2, h3⟩ := hF; exact ⟨p, h1, row_keep8 h2 (row_ne h2 hr5 (by decide)) _ _ _ _ _ _ _ _, h3⟩
        · exact Fdiv_big _ _ _ _ _ _ _ hj11 _ _
    · obtain rfl := Option.some.inj (show some _ = some o from ho)
      refine wpOp_step rfl fun K hK => ?_
      have h8 : ∃ (p : Nat) (f : Nat → Int), s6 = .pointer (some ⟨p, 0, none⟩) ∧ x.rowIs p 24 4 (u64s f) ∧ w.heap.size + 1 + 1 < p := hdep ⟨8, .data⟩ (by simp) rfl
      have h0 : s13 = wv r := hdep ⟨6, .data⟩ (by simp) rfl
      obtain ⟨p6, f6, rfl, hr6, hl6⟩ := h8
      subst h0
      obtain ⟨y0, y1, y2, y3⟩ := row_cells4 hr6
      have fz := hr6.frozen
      go_simp
      refine hK _ _ ⟨⟨_, _, _, _, _, _, _, _, _, rfl, ((((hs.set hl6 _).set hl6 _).set hl6 _).set hl6 _)⟩, ⟨p6, rfl, row_put4 hr6 (limb r) rfl rfl rfl rfl, hl6⟩, fun j hj hd hF => ?_⟩
      · rcases Nat.lt_or_ge j 11 with hj11 | hj11
        · rcases i11 hj11 with rfl | rfl | rfl | rfl | rfl | rfl | rfl | rfl | rfl | rfl | rfl
          · have h : s8 = wv a := hF; exact h
          · have h : s9 = wv8 am := hF; exact h
          · have h : s10 = wv b := hF; exact h
          · have h : s11 = .tuple #[wv8 q, wv r] := hF; exact h
          · have h : s7 = .tuple #[wv8 q, wv r] := hF; exact h
          · have h : s12 = wv8 q := hF; exact h
          · exact (rfl : wv r = wv r)
          · obtain ⟨p, f, h1, h2, h3⟩ := hF; exact ⟨p, f, h1, row_keep4 h2 (row_ne h2 hr6 (by decide)) _ _ _ _, h3⟩
          · exact ⟨p6, limb r, rfl, row_put4 hr6 (limb r) rfl rfl rfl rfl, hl6⟩
          · obtain ⟨p, h1, h2, h3⟩ := hF; exact ⟨p, h1, row_keep4 h2 (row_ne h2 hr6 (by decide)) _ _ _ _, h3⟩
          · exact absurd rfl hj
        · exact Fdiv_big _ _ _ _ _ _ _ hj11 _ _
  · intro s x hG hF
    clear hS
    obtain ⟨s5, s6, s7, s8, s9, s10, s11, s12, s13, rfl, hs⟩ := hG
    obtain ⟨p, rfl, hr, hl⟩ : ∃ p : Nat, s6 = .pointer (some ⟨p, 0, none⟩) ∧ x.rowIs p 24 4 (u64s (limb r)) ∧ w.heap.size + 1 + 1 < p := hF 10 (by decide)
    clear hF
    obtain ⟨y0, y1, y2, y3⟩ := row_cells4 hr
    have hrz := hs.rz
    have hbel := hs.be
    have z := hrz.lt
    have z' := hbel.size
    obtain ⟨x0, x1, x2, x3⟩ := row_cells4 hrz
    have fz := hrz.frozen
    go_wp2
    obtain ⟨q0, q1, q2, q3⟩ := row_cells4 (row_put4 hrz (limb r) rfl rfl rfl rfl)
    refine bodyPost_ret (v := wv r) (by simp [results, Try.results32, go_sem, q0, q1, q2, q3, z]) rfl (ret_mk (by rw [HR.out, HA.out]) ?_)
    exact below_put4 hbel (by omega) _ _ _ _
end cin
end Go.Proofs.Ytohoajjdoihekaa
