/-
  The walk of the statement Reckons.
-/
import Derived.Test.YtohoajjdoihekaaSt3
import Derived.Test.YtohoajjdoihekaaNum8
import Derived.Deep.DeepCutAuto
set_option linter.unusedVariables false
set_option linter.unusedSimpArgs false
namespace Go.Proofs.Ytohoajjdoihekaa
open Go.RowKit
namespace cin
theorem j40 {i : Nat} (h : i < 40) : i = 0 ∨ i = 1 ∨ i = 2 ∨ i = 3 ∨ i = 4 ∨ i = 5 ∨ i = 6 ∨ i = 7 ∨ i = 8 ∨ i = 9 ∨ i = 10 ∨ i = 11 ∨ i = 12 ∨ i = 13 ∨ i = 14 ∨ i = 15 ∨ i = 16 ∨ i = 17 ∨ i = 18 ∨ i = 19 ∨ i = 20 ∨ i = 21 ∨ i = 22 ∨ i = 23 ∨ i = 24 ∨ i = 25 ∨ i = 26 ∨ i = 27 ∨ i = 28 ∨ i = 29 ∨ i = 30 ∨ i = 31 ∨ i = 32 ∨ i = 33 ∨ i = 34 ∨ i = 35 ∨ i = 36 ∨ i = 37 ∨ i = 38 ∨ i = 39 := by omega
theorem j31 {i : Nat} (h : i < 31) : i = 0 ∨ i = 1 ∨ i = 2 ∨ i = 3 ∨ i = 4 ∨ i = 5 ∨ i = 6 ∨ i = 7 ∨ i = 8 ∨ i = 9 ∨ i = 10 ∨ i = 11 ∨ i = 12 ∨ i = 13 ∨ i = 14 ∨ i = 15 ∨ i = 16 ∨ i = 17 ∨ i = 18 ∨ i = 19 ∨ i = 20 ∨ i = 21 ∨ i = 22 ∨ i = 23 ∨ i = 24 ∨ i = 25 ∨ i = 26 ∨ i = 27 ∨ i = 28 ∨ i = 29 ∨ i = 30 := by omega
structure RK (w : World) (a b c z o p9 p10 : Nat) (x : World) : Prop where
  ra : x.rowIs w.heap.size 24 4 (u64s (limb a))
  rb : x.rowIs (w.heap.size + 1) 24 4 (u64s (limb b))
  rc : x.rowIs (w.heap.size + 1 + 1) 24 4 (u64s (limb c))
  r9 : x.rowIs p9 24 4 (u64s (limb z))
  r10 : x.rowIs p10 24 4 (u64s (limb o))
  be : Below w.heap.size w x
theorem RK.drew {w : World} {a b c z o p9 p10 : Nat} {x : World} (h : RK w a b c z o p9 p10 x) : RK w a b c z o p9 p10 x.drew := ⟨h.ra, h.rb, h.rc, h.r9, h.r10, h.be.drew⟩
theorem RK.call {w : World} {a b c z o p9 p10 : Nat} {x y : World} (h : RK w a b c z o p9 p10 x) (hb : Below x.heap.size x y) : RK w a b c z o p9 p10 y := ⟨row_below h.ra hb, row_below h.rb hb, row_below h.rc hb, row_below h.r9 hb, row_below h.r10 hb, bcall h.be hb⟩
theorem j25 {i : Nat} (h : i < 25) : i = 0 ∨ i = 1 ∨ i = 2 ∨ i = 3 ∨ i = 4 ∨ i = 5 ∨ i = 6 ∨ i = 7 ∨ i = 8 ∨ i = 9 ∨ i = 10 ∨ i = 11 ∨ i = 12 ∨ i = 13 ∨ i = 14 ∨ i = 15 ∨ i = 16 ∨ i = 17 ∨ i = 18 ∨ i = 19 ∨ i = 20 ∨ i = 21 ∨ i = 22 ∨ i = 23 ∨ i = 24 := by omega
theorem RK.alloc {w : World} {a b c z o p9 p10 : Nat} {x : World} (h : RK w a b c z o p9 p10 x) (ob : Obj) : RK w a b c z o p9 p10 (x.alloc ob) := ⟨h.ra.alloc _, h.rb.alloc _, h.rc.alloc _, h.r9.alloc _, h.r10.alloc _, bal h.be _⟩
theorem kless_true (a b : Nat) (h : a % M < b % M) (w : World) : Calls Try.prog 11 #[wv a, wv b] w fun e w' => e = .returned (.bool true) ∧ Below w.heap.size w w' := by
  refine (kless_any a b w).mono ?_
  rintro e w' ⟨t, HT, rfl, hb⟩
  rw [HT.out, decide_eq_true h]
  exact ⟨rfl, hb⟩
theorem tmod_cases (n : Int) : ∃ k : Nat, k < 200 ∧ (n.tmod 200 = (k : Int) ∨ (0 < k ∧ n.tmod 200 = -(k : Int))) := by
  have h1 := Int.tmod_lt_of_pos n (show (0 : Int) < 200 by omega)
  have h2 : -200 < n.tmod 200 := Int.lt_tmod_of_pos n (by omega)
  by_cases h : 0 ≤ n.tmod 200
  · exact ⟨(n.tmod 200).toNat, by omega, Or.inl (by omega)⟩
  · exact ⟨(-(n.tmod 200)).toNat, by omega, Or.inr ⟨by omega, by omega⟩⟩
theorem RK.setFar {w y : World} {a b c z o p9 p10 : Nat} {x : World} (h : RK w a b c z o p9 p10 x) (hy : RK w a b c z o p9 p10 y) {p : Addr} (hp : y.heap.size ≤ p.block) (v : Value) : RK w a b c z o p9 p10 (x.setCell p v) := by
  have h1 := hy.ra.lt; have h2 := hy.rb.lt; have h3 := hy.rc.lt; have h4 := hy.r9.lt; have h5 := hy.r10.lt
  exact ⟨h.ra.setOther (by omega) _, h.rb.setOther (by omega) _, h.rc.setOther (by omega) _, h.r9.setOther (by omega) _, h.r10.setOther (by omega) _, h.be.setCell (by omega) _⟩
theorem j43 {i : Nat} (h : i < 43) : i = 0 ∨ i = 1 ∨ i = 2 ∨ i = 3 ∨ i = 4 ∨ i = 5 ∨ i = 6 ∨ i = 7 ∨ i = 8 ∨ i = 9 ∨ i = 10 ∨ i = 11 ∨ i = 12 ∨ i = 13 ∨ i = 14 ∨ i = 15 ∨ i = 16 ∨ i = 17 ∨ i = 18 ∨ i = 19 ∨ i = 20 ∨ i = 21 ∨ i = 22 ∨ i = 23 ∨ i = 24 ∨ i = 25 ∨ i = 26 ∨ i = 27 ∨ i = 28 ∨ i = 29 ∨ i = 30 ∨ i = 31 ∨ i = 32 ∨ i = 33 ∨ i = 34 ∨ i = 35 ∨ i = 36 ∨ i = 37 ∨ i = 38 ∨ i = 39 ∨ i = 40 ∨ i = 41 ∨ i = 42 := by omega
theorem j45 {i : Nat} (h : i < 45) : i = 0 ∨ i = 1 ∨ i = 2 ∨ i = 3 ∨ i = 4 ∨ i = 5 ∨ i = 6 ∨ i = 7 ∨ i = 8 ∨ i = 9 ∨ i = 10 ∨ i = 11 ∨ i = 12 ∨ i = 13 ∨ i = 14 ∨ i = 15 ∨ i = 16 ∨ i = 17 ∨ i = 18 ∨ i = 19 ∨ i = 20 ∨ i = 21 ∨ i = 22 ∨ i = 23 ∨ i = 24 ∨ i = 25 ∨ i = 26 ∨ i = 27 ∨ i = 28 ∨ i = 29 ∨ i = 30 ∨ i = 31 ∨ i = 32 ∨ i = 33 ∨ i = 34 ∨ i = 35 ∨ i = 36 ∨ i = 37 ∨ i = 38 ∨ i = 39 ∨ i = 40 ∨ i = 41 ∨ i = 42 ∨ i = 43 ∨ i = 44 := by omega
theorem j5 {i : Nat} (h : i < 5) : i = 0 ∨ i = 1 ∨ i = 2 ∨ i = 3 ∨ i = 4 := by omega
theorem j38 {i : Nat} (h : i < 38) : i = 0 ∨ i = 1 ∨ i = 2 ∨ i = 3 ∨ i = 4 ∨ i = 5 ∨ i = 6 ∨ i = 7 ∨ i = 8 ∨ i = 9 ∨ i = 10 ∨ i = 11 ∨ i = 12 ∨ i = 13 ∨ i = 14 ∨ i = 15 ∨ i = 16 ∨ i = 17 ∨ i = 18 ∨ i = 19 ∨ i = 20 ∨ i = 21 ∨ i = 22 ∨ i = 23 ∨ i = 24 ∨ i = 25 ∨ i = 26 ∨ i = 27 ∨ i = 28 ∨ i = 29 ∨ i = 30 ∨ i = 31 ∨ i = 32 ∨ i = 33 ∨ i = 34 ∨ i = 35 ∨ i = 36 ∨ i = 37 := by omega
set_option maxRecDepth 100000 in
set_option maxHeartbeats 16000000 in
theorem reckons_any (a b c : Nat) (n : Int) (w : World) : Calls Try.prog 4 #[wv a, wv b, wv c, .int .i64 n] w fun e w' => e = .returned (.bool true) ∧ Below w.heap.size w w' := by
  go_enter Try.func4, Try.ntmps4
  go_wp2_with fail
  refine (ksmall_any 0 (by omega) _).mono ?_
  rintro e w1 ⟨z, HZ, rfl, hb⟩
  have ra := row_below (row_lit4 (n := w.heap.size) (limb a) rfl rfl rfl rfl rfl |>.alloc _ |>.alloc _) hb
  have rb := row_below (row_lit4 (n := w.heap.size + 1) (limb b) (by simp) rfl rfl rfl rfl |>.alloc _) hb
  have rc := row_below (row_lit4 (n := w.heap.size + 1 + 1) (limb c) (by simp) rfl rfl rfl rfl) hb
  have be := bcall (bal (bal (bal (Below.refl _ _) _) _) _) hb
  clear hb
  go_wp2_with fail
  refine (ksmall_any 1 (by omega) _).mono ?_
  rintro e w2 ⟨o, HO, rfl, hb⟩
  replace ra := row_below (ra.alloc _) hb
  replace rb := row_below (rb.alloc _) hb
  replace rc := row_below (rc.alloc _) hb
  have r9 := row_below (row_lit4 (n := w1.heap.size) (limb z) rfl rfl rfl rfl rfl) hb
  replace be := bcall (bal be _) hb
  clear hb
  go_wp2
  obtain ⟨p9, hp9⟩ : ∃ p, p = w1.heap.size := ⟨_, rfl⟩
  obtain ⟨p10, hp10⟩ : ∃ p, p = w2.heap.size := ⟨_, rfl⟩
  have hs : RK w a b c z o w1.heap.size w2.heap.size (w2.alloc (.cells #[.int .u64 (limb o 0), .int .u64 (limb o 1), .int .u64 (limb o 2), .int .u64 (limb o 3)] 24)) := ⟨ra.alloc _, rb.alloc _, rc.alloc _, r9.alloc _, row_lit4 (limb o) rfl rfl rfl rfl rfl, bal be _⟩
  clear ra rb rc r9 be
  rw [← hp9, ← hp10] at *
  obtain ⟨v29, Hv29⟩ : ∃ v, Hid (v = fadd (a % M) (b % M)) := ⟨_, rfl⟩
  obtain ⟨v32, Hv32⟩ : ∃ v, Hid (v = fcalc 3 (v29 % M) (b % M) (z % M)) := ⟨_, rfl⟩
  have E34 : eqw v32 a = true := k34  Hv29.out Hv32.out
  obtain ⟨v39, Hv39⟩ : ∃ v, Hid (v = fadd (b % M) (c % M)) := ⟨_, rfl⟩
  obtain ⟨v41, Hv41⟩ : ∃ v, Hid (v = fcalc 2 (a % M) (v39 % M) (z % M)) := ⟨_, rfl⟩
  obtain ⟨v45, Hv45⟩ : ∃ v, Hid (v = fcalc 2 (a % M) (b % M) (z % M)) := ⟨_, rfl⟩
  obtain ⟨v49, Hv49⟩ : ∃ v, Hid (v = fcalc 2 (a % M) (c % M) (z % M)) := ⟨_, rfl⟩
  obtain ⟨v50, Hv50⟩ : ∃ v, Hid (v = fadd (v45 % M) (v49 % M)) := ⟨_, rfl⟩
  have E51 : eqw v41 v50 = true := k51  Hv39.out Hv41.out Hv45.out Hv49.out Hv50.out
  obtain ⟨v58, Hv58⟩ : ∃ v, Hid (v = fcalc 25 (a % M) (z % M) (z % M)) := ⟨_, rfl⟩
  obtain ⟨v59, Hv59⟩ : ∃ v, Hid (v = fadd (a % M) (v58 % M)) := ⟨_, rfl⟩
  obtain ⟨v63, Hv63⟩ : ∃ v, Hid (v = fcalc 25 (z % M) (z % M) (z % M)) := ⟨_, rfl⟩
  have E64 : eqw v59 v63 = true := k64 HZ.out Hv58.out Hv59.out Hv63.out
  refine wp_region_table (by kernel_rfl) (RK w a b c z o p9 p10) [(27, wv a), (28, wv b), (29, wv v29), (30, wv b), (31, wv z), (32, wv v32), (33, wv a), (34, .bool true), (35, .bool true), (36, wv a), (37, wv b), (38, wv c), (39, wv v39), (40, wv z), (41, wv v41), (42, wv a), (43, wv b), (44, wv z), (45, wv v45), (46, wv a), (47, wv c), (48, wv z), (49, wv v49), (50, wv v50), (51, .bool true), (52, .bool true), (53, .bool true), (54, wv a), (55, wv a), (56, wv z), (57, wv z), (58, wv v58), (59, wv v59), (60, wv z), (61, wv z), (62, wv z), (63, wv v63), (64, .bool true), (65, .bool true), (11, .bool true)] (by kernel_rfl) rfl (by kernel_rfl) (by kernel_rfl) hs.drew [(4, .pointer (some ⟨w.heap.size, 0, none⟩)), (5, .pointer (some ⟨w.heap.size + 1, 0, none⟩)), (9, .pointer (some ⟨p9, 0, none⟩)), (6, .pointer (some ⟨w.heap.size + 1 + 1, 0, none⟩))] (by intro p hp; simp only [List.mem_cons, List.not_mem_nil, or_false] at hp; rcases hp with rfl | rfl | rfl | rfl <;> rfl) (by kernel_rfl) [] (fun p hp => by cases hp) ?_ ?_
  · as_aux_lemma =>
    intro i o d v ho ht s x hs hb hb2 hdep
    have hi : i < 40 := (Array.getElem?_eq_some_iff.1 ho).1
    rcases j40 hi with rfl | rfl | rfl | rfl | rfl | rfl | rfl | rfl | rfl | rfl | rfl | rfl | rfl | rfl | rfl | rfl | rfl | rfl | rfl | rfl | rfl | rfl | rfl | rfl | rfl | rfl | rfl | rfl | rfl | rfl | rfl | rfl | rfl | rfl | rfl | rfl | rfl | rfl | rfl | rfl
    · obtain rfl := Option.some.inj (show some _ = some o from ho)
      obtain ⟨rfl, rfl⟩ := Prod.mk.inj (Option.some.inj (show some (_, _) = some (d, v) from ht))
      exact Or.inl ⟨want_none rfl, fun K hK => st_load 4 27 _ _ (hb _ (List.Mem.head _)) hs.ra (hK x hs)⟩
    · obtain rfl := Option.some.inj (show some _ = some o from ho)
      obtain ⟨rfl, rfl⟩ := Prod.mk.inj (Option.some.inj (show some (_, _) = some (d, v) from ht))
      exact Or.inl ⟨want_none rfl, fun K hK => st_load 5 28 _ _ (hb _ (List.Mem.tail _ (List.Mem.head _))) hs.rb (hK x hs)⟩
    · obtain rfl := Option.some.inj (show some _ = some o from ho)
      obtain ⟨rfl, rfl⟩ := Prod.mk.inj (Option.some.inj (show some (_, _) = some (d, v) from ht))
      exact Or.inl ⟨want_none rfl, fun K hK => st_sum 27 28 29 _ _ _ (hdep ⟨0, .data⟩ (by simp) rfl _ _ rfl) (hdep ⟨1, .data⟩ (by simp) rfl _ _ rfl) Hv29 (fun x' hb' => hK x' (hs.call hb'))⟩
    · obtain rfl := Option.some.inj (show some _ = some o from ho)
      obtain ⟨rfl, rfl⟩ := Prod.mk.inj (Option.some.inj (show some (_, _) = some (d, v) from ht))
      exact Or.inl ⟨want_none rfl, fun K hK => st_load 5 30 _ _ (hb _ (List.Mem.tail _ (List.Mem.head _))) hs.rb (hK x hs)⟩
    · obtain rfl := Option.some.inj (show some _ = some o from ho)
      obtain ⟨rfl, rfl⟩ := Prod.mk.inj (Option.some.inj (show some (_, _) = some (d, v) from ht))
      exact Or.inl ⟨want_none rfl, fun K hK => st_load 9 31 _ _ (hb _ (List.Mem.tail _ (List.Mem.tail _ (List.Mem.head _)))) hs.r9 (hK x hs)⟩
    · obtain rfl := Option.some.inj (show some _ = some o from ho)
      obtain ⟨rfl, rfl⟩ := Prod.mk.inj (Option.some.inj (show some (_, _) = some (d, v) from ht))
      exact Or.inl ⟨want_none rfl, fun K hK => st_calc 3 29 30 31 32 _ _ _ _ (by decide) (by decide) (hdep ⟨2, .data⟩ (by simp) rfl _ _ rfl) (hdep ⟨3, .data⟩ (by simp) rfl _ _ rfl) (hdep ⟨4, .data⟩ (by simp) rfl _ _ rfl) Hv32 (fun x' hb' => hK x' (hs.call hb'))⟩
    · obtain rfl := Option.some.inj (show some _ = some o from ho)
      obtain ⟨rfl, rfl⟩ := Prod.mk.inj (Option.some.inj (show some (_, _) = some (d, v) from ht))
      exact Or.inl ⟨want_none rfl, fun K hK => st_load 4 33 _ _ (hb _ (List.Mem.head _)) hs.ra (hK x hs)⟩
    · obtain rfl := Option.some.inj (show some _ = some o from ho)
      obtain ⟨rfl, rfl⟩ := Prod.mk.inj (Option.some.inj (show some (_, _) = some (d, v) from ht))
      exact Or.inl ⟨want_none rfl, fun K hK => st_eql 32 33 34 _ _ true (hdep ⟨5, .data⟩ (by simp) rfl _ _ rfl) (hdep ⟨6, .data⟩ (by simp) rfl _ _ rfl) E34 (hK x hs)⟩
    · obtain rfl := Option.some.inj (show some _ = some o from ho)
      obtain ⟨rfl, rfl⟩ := Prod.mk.inj (Option.some.inj (show some (_, _) = some (d, v) from ht))
      exact Or.inl ⟨want_none rfl, fun K hK => st_move 34 35 _ (hdep ⟨7, .data⟩ (by simp) rfl _ _ rfl) (hK x hs)⟩
    · obtain rfl := Option.some.inj (show some _ = some o from ho)
      obtain ⟨rfl, rfl⟩ := Prod.mk.inj (Option.some.inj (show some (_, _) = some (d, v) from ht))
      exact Or.inl ⟨want_some rfl rfl rfl (hdep ⟨8, .guard⟩ (by simp) rfl _ _ rfl), fun K hK => st_load 4 36 _ _ (hb _ (List.Mem.head _)) hs.ra (hK x hs)⟩
    · obtain rfl := Option.some.inj (show some _ = some o from ho)
      obtain ⟨rfl, rfl⟩ := Prod.mk.inj (Option.some.inj (show some (_, _) = some (d, v) from ht))
      exact Or.inl ⟨want_some rfl rfl rfl (hdep ⟨8, .guard⟩ (by simp) rfl _ _ rfl), fun K hK => st_load 5 37 _ _ (hb _ (List.Mem.tail _ (List.Mem.head _))) hs.rb (hK x hs)⟩
    · obtain rfl := Option.some.inj (show some _ = some o from ho)
      obtain ⟨rfl, rfl⟩ := Prod.mk.inj (Option.some.inj (show some (_, _) = some (d, v) from ht))
      exact Or.inl ⟨want_some rfl rfl rfl (hdep ⟨8, .guard⟩ (by simp) rfl _ _ rfl), fun K hK => st_load 6 38 _ _ (hb _ (List.Mem.tail _ (List.Mem.tail _ (List.Mem.tail _ (List.Mem.head _))))) hs.rc (hK x hs)⟩
    · obtain rfl := Option.some.inj (show some _ = some o from ho)
      obtain ⟨rfl, rfl⟩ := Prod.mk.inj (Option.some.inj (show some (_, _) = some (d, v) from ht))
      exact Or.inl ⟨want_some rfl rfl rfl (hdep ⟨8, .guard⟩ (by simp) rfl _ _ rfl), fun K hK => st_sum 37 38 39 _ _ _ (hdep ⟨10, .data⟩ (by simp) rfl _ _ rfl) (hdep ⟨11, .data⟩ (by simp) rfl _ _ rfl) Hv39 (fun x' hb' => hK x' (hs.call hb'))⟩
    · obtain rfl := Option.some.inj (show some _ = some o from ho)
      obtain ⟨rfl, rfl⟩ := Prod.mk.inj (Option.some.inj (show some (_, _) = some (d, v) from ht))
      exact Or.inl ⟨want_some rfl rfl rfl (hdep ⟨8, .guard⟩ (by simp) rfl _ _ rfl), fun K hK => st_load 9 40 _ _ (hb _ (List.Mem.tail _ (List.Mem.tail _ (List.Mem.head _)))) hs.r9 (hK x hs)⟩
    · obtain rfl := Option.some.inj (show some _ = some o from ho)
      obtain ⟨rfl, rfl⟩ := Prod.mk.inj (Option.some.inj (show some (_, _) = some (d, v) from ht))
      exact Or.inl ⟨want_some rfl rfl rfl (hdep ⟨8, .guard⟩ (by simp) rfl _ _ rfl), fun K hK => st_calc 2 36 39 40 41 _ _ _ _ (by decide) (by decide) (hdep ⟨9, .data⟩ (by simp) rfl _ _ rfl) (hdep ⟨12, .data⟩ (by simp) rfl _ _ rfl) (hdep ⟨13, .data⟩ (by simp) rfl _ _ rfl) Hv41 (fun x' hb' => hK x' (hs.call hb'))⟩
    · obtain rfl := Option.some.inj (show some _ = some o from ho)
      obtain ⟨rfl, rfl⟩ := Prod.mk.inj (Option.some.inj (show some (_, _) = some (d, v) from ht))
      exact Or.inl ⟨want_some rfl rfl rfl (hdep ⟨8, .guard⟩ (by simp) rfl _ _ rfl), fun K hK => st_load 4 42 _ _ (hb _ (List.Mem.head _)) hs.ra (hK x hs)⟩
    · obtain rfl := Option.some.inj (show some _ = some o from ho)
      obtain ⟨rfl, rfl⟩ := Prod.mk.inj (Option.some.inj (show some (_, _) = some (d, v) from ht))
      exact Or.inl ⟨want_some rfl rfl rfl (hdep ⟨8, .guard⟩ (by simp) rfl _ _ rfl), fun K hK => st_load 5 43 _ _ (hb _ (List.Mem.tail _ (List.Mem.head _))) hs.rb (hK x hs)⟩
    · obtain rfl := Option.some.inj (show some _ = some o from ho)
      obtain ⟨rfl, rfl⟩ := Prod.mk.inj (Option.some.inj (show some (_, _) = some (d, v) from ht))
      exact Or.inl ⟨want_some rfl rfl rfl (hdep ⟨8, .guard⟩ (by simp) rfl _ _ rfl), fun K hK => st_load 9 44 _ _ (hb _ (List.Mem.tail _ (List.Mem.tail _ (List.Mem.head _)))) hs.r9 (hK x hs)⟩
    · obtain rfl := Option.some.inj (show some _ = some o from ho)
      obtain ⟨rfl, rfl⟩ := Prod.mk.inj (Option.some.inj (show some (_, _) = some (d, v) from ht))
      exact Or.inl ⟨want_some rfl rfl rfl (hdep ⟨8, .guard⟩ (by simp) rfl _ _ rfl), fun K hK => st_calc 2 42 43 44 45 _ _ _ _ (by decide) (by decide) (hdep ⟨15, .data⟩ (by simp) rfl _ _ rfl) (hdep ⟨16, .data⟩ (by simp) rfl _ _ rfl) (hdep ⟨17, .data⟩ (by simp) rfl _ _ rfl) Hv45 (fun x' hb' => hK x' (hs.call hb'))⟩
    · obtain rfl := Option.some.inj (show some _ = some o from ho)
      obtain ⟨rfl, rfl⟩ := Prod.mk.inj (Option.some.inj (show some (_, _) = some (d, v) from ht))
      exact Or.inl ⟨want_some rfl rfl rfl (hdep ⟨8, .guard⟩ (by simp) rfl _ _ rfl), fun K hK => st_load 4 46 _ _ (hb _ (List.Mem.head _)) hs.ra (hK x hs)⟩
    · obtain rfl := Option.some.inj (show some _ = some o from ho)
      obtain ⟨rfl, rfl⟩ := Prod.mk.inj (Option.some.inj (show some (_, _) = some (d, v) from ht))
      exact Or.inl ⟨want_some rfl rfl rfl (hdep ⟨8, .guard⟩ (by simp) rfl _ _ rfl), fun K hK => st_load 6 47 _ _ (hb _ (List.Mem.tail _ (List.Mem.tail _ (List.Mem.tail _ (List.Mem.head _))))) hs.rc (hK x hs)⟩
    · obtain rfl := Option.some.inj (show some _ = some o from ho)
      obtain ⟨rfl, rfl⟩ := Prod.mk.inj (Option.some.inj (show some (_, _) = some (d, v) from ht))
      exact Or.inl ⟨want_some rfl rfl rfl (hdep ⟨8, .guard⟩ (by simp) rfl _ _ rfl), fun K hK => st_load 9 48 _ _ (hb _ (List.Mem.tail _ (List.Mem.tail _ (List.Mem.head _)))) hs.r9 (hK x hs)⟩
    · obtain rfl := Option.some.inj (show some _ = some o from ho)
      obtain ⟨rfl, rfl⟩ := Prod.mk.inj (Option.some.inj (show some (_, _) = some (d, v) from ht))
      exact Or.inl ⟨want_some rfl rfl rfl (hdep ⟨8, .guard⟩ (by simp) rfl _ _ rfl), fun K hK => st_calc 2 46 47 48 49 _ _ _ _ (by decide) (by decide) (hdep ⟨19, .data⟩ (by simp) rfl _ _ rfl) (hdep ⟨20, .data⟩ (by simp) rfl _ _ rfl) (hdep ⟨21, .data⟩ (by simp) rfl _ _ rfl) Hv49 (fun x' hb' => hK x' (hs.call hb'))⟩
    · obtain rfl := Option.some.inj (show some _ = some o from ho)
      obtain ⟨rfl, rfl⟩ := Prod.mk.inj (Option.some.inj (show some (_, _) = some (d, v) from ht))
      exact Or.inl ⟨want_some rfl rfl rfl (hdep ⟨8, .guard⟩ (by simp) rfl _ _ rfl), fun K hK => st_sum 45 49 50 _ _ _ (hdep ⟨18, .data⟩ (by simp) rfl _ _ rfl) (hdep ⟨22, .data⟩ (by simp) rfl _ _ rfl) Hv50 (fun x' hb' => hK x' (hs.call hb'))⟩
    · obtain rfl := Option.some.inj (show some _ = some o from ho)
      obtain ⟨rfl, rfl⟩ := Prod.mk.inj (Option.some.inj (show some (_, _) = some (d, v) from ht))
      exact Or.inl ⟨want_some rfl rfl rfl (hdep ⟨8, .guard⟩ (by simp) rfl _ _ rfl), fun K hK => st_eql 41 50 51 _ _ true (hdep ⟨14, .data⟩ (by simp) rfl _ _ rfl) (hdep ⟨23, .data⟩ (by simp) rfl _ _ rfl) E51 (hK x hs)⟩
    · obtain rfl := Option.some.inj (show some _ = some o from ho)
      obtain ⟨rfl, rfl⟩ := Prod.mk.inj (Option.some.inj (show some (_, _) = some (d, v) from ht))
      exact Or.inl ⟨want_none rfl, fun K hK => st_pick 35 51 52 (hdep ⟨8, .data⟩ (by simp) rfl _ _ rfl) (hdep ⟨24, .data⟩ (by simp) rfl _ _ rfl) (hK x hs)⟩
    · obtain rfl := Option.some.inj (show some _ = some o from ho)
      obtain ⟨rfl, rfl⟩ := Prod.mk.inj (Option.some.inj (show some (_, _) = some (d, v) from ht))
      exact Or.inl ⟨want_none rfl, fun K hK => st_move 52 53 _ (hdep ⟨25, .data⟩ (by simp) rfl _ _ rfl) (hK x hs)⟩
    · obtain rfl := Option.some.inj (show some _ = some o from ho)
      obtain ⟨rfl, rfl⟩ := Prod.mk.inj (Option.some.inj (show some (_, _) = some (d, v) from ht))
      exact Or.inl ⟨want_some rfl rfl rfl (hdep ⟨26, .guard⟩ (by simp) rfl _ _ rfl), fun K hK => st_load 4 54 _ _ (hb _ (List.Mem.head _)) hs.ra (hK x hs)⟩
    · obtain rfl := Option.some.inj (show some _ = some o from ho)
      obtain ⟨rfl, rfl⟩ := Prod.mk.inj (Option.some.inj (show some (_, _) = some (d, v) from ht))
      exact Or.inl ⟨want_some rfl rfl rfl (hdep ⟨26, .guard⟩ (by simp) rfl _ _ rfl), fun K hK => st_load 4 55 _ _ (hb _ (List.Mem.head _)) hs.ra (hK x hs)⟩
    · obtain rfl := Option.some.inj (show some _ = some o from ho)
      obtain ⟨rfl, rfl⟩ := Prod.mk.inj (Option.some.inj (show some (_, _) = some (d, v) from ht))
      exact Or.inl ⟨want_some rfl rfl rfl (hdep ⟨26, .guard⟩ (by simp) rfl _ _ rfl), fun K hK => st_load 9 56 _ _ (hb _ (List.Mem.tail _ (List.Mem.tail _ (List.Mem.head _)))) hs.r9 (hK x hs)⟩
    · obtain rfl := Option.some.inj (show some _ = some o from ho)
      obtain ⟨rfl, rfl⟩ := Prod.mk.inj (Option.some.inj (show some (_, _) = some (d, v) from ht))
      exact Or.inl ⟨want_some rfl rfl rfl (hdep ⟨26, .guard⟩ (by simp) rfl _ _ rfl), fun K hK => st_load 9 57 _ _ (hb _ (List.Mem.tail _ (List.Mem.tail _ (List.Mem.head _)))) hs.r9 (hK x hs)⟩
    · obtain rfl := Option.some.inj (show some _ = some o from ho)
      obtain ⟨rfl, rfl⟩ := Prod.mk.inj (Option.some.inj (show some (_, _) = some (d, v) from ht))
      exact Or.inl ⟨want_some rfl rfl rfl (hdep ⟨26, .guard⟩ (by simp) rfl _ _ rfl), fun K hK => st_calc 25 55 56 57 58 _ _ _ _ (by decide) (by decide) (hdep ⟨28, .data⟩ (by simp) rfl _ _ rfl) (hdep ⟨29, .data⟩ (by simp) rfl _ _ rfl) (hdep ⟨30, .data⟩ (by simp) rfl _ _ rfl) Hv58 (fun x' hb' => hK x' (hs.call hb'))⟩
    · obtain rfl := Option.some.inj (show some _ = some o from ho)
      obtain ⟨rfl, rfl⟩ := Prod.mk.inj (Option.some.inj (show some (_, _) = some (d, v) from ht))
      exact Or.inl ⟨want_some rfl rfl rfl (hdep ⟨26, .guard⟩ (by simp) rfl _ _ rfl), fun K hK => st_sum 54 58 59 _ _ _ (hdep ⟨27, .data⟩ (by simp) rfl _ _ rfl) (hdep ⟨31, .data⟩ (by simp) rfl _ _ rfl) Hv59 (fun x' hb' => hK x' (hs.call hb'))⟩
    · obtain rfl := Option.some.inj (show some _ = some o from ho)
      obtain ⟨rfl, rfl⟩ := Prod.mk.inj (Option.some.inj (show some (_, _) = some (d, v) from ht))
      exact Or.inl ⟨want_some rfl rfl rfl (hdep ⟨26, .guard⟩ (by simp) rfl _ _ rfl), fun K hK => st_load 9 60 _ _ (hb _ (List.Mem.tail _ (List.Mem.tail _ (List.Mem.head _)))) hs.r9 (hK x hs)⟩
    · obtain rfl := Option.some.inj (show some _ = some o from ho)
      obtain ⟨rfl, rfl⟩ := Prod.mk.inj (Option.some.inj (show some (_, _) = some (d, v) from ht))
      exact Or.inl ⟨want_some rfl rfl rfl (hdep ⟨26, .guard⟩ (by simp) rfl _ _ rfl), fun K hK => st_load 9 61 _ _ (hb _ (List.Mem.tail _ (List.Mem.tail _ (List.Mem.head _)))) hs.r9 (hK x hs)⟩
    · obtain rfl := Option.some.inj (show some _ = some o from ho)
      obtain ⟨rfl, rfl⟩ := Prod.mk.inj (Option.some.inj (show some (_, _) = some (d, v) from ht))
      exact Or.inl ⟨want_some rfl rfl rfl (hdep ⟨26, .guard⟩ (by simp) rfl _ _ rfl), fun K hK => st_load 9 62 _ _ (hb _ (List.Mem.tail _ (List.Mem.tail _ (List.Mem.head _)))) hs.r9 (hK x hs)⟩
    · obtain rfl := Option.some.inj (show some _ = some o from ho)
      obtain ⟨rfl, rfl⟩ := Prod.mk.inj (Option.some.inj (show some (_, _) = some (d, v) from ht))
      exact Or.inl ⟨want_some rfl rfl rfl (hdep ⟨26, .guard⟩ (by simp) rfl _ _ rfl), fun K hK => st_calc 25 60 61 62 63 _ _ _ _ (by decide) (by decide) (hdep ⟨33, .data⟩ (by simp) rfl _ _ rfl) (hdep ⟨34, .data⟩ (by simp) rfl _ _ rfl) (hdep ⟨35, .data⟩ (by simp) rfl _ _ rfl) Hv63 (fun x' hb' => hK x' (hs.call hb'))⟩
    · obtain rfl := Option.some.inj (show some _ = some o from ho)
      obtain ⟨rfl, rfl⟩ := Prod.mk.inj (Option.some.inj (show some (_, _) = some (d, v) from ht))
      exact Or.inl ⟨want_some rfl rfl rfl (hdep ⟨26, .guard⟩ (by simp) rfl _ _ rfl), fun K hK => st_eql 59 63 64 _ _ true (hdep ⟨32, .data⟩ (by simp) rfl _ _ rfl) (hdep ⟨36, .data⟩ (by simp) rfl _ _ rfl) E64 (hK x hs)⟩
    · obtain rfl := Option.some.inj (show some _ = some o from ho)
      obtain ⟨rfl, rfl⟩ := Prod.mk.inj (Option.some.inj (show some (_, _) = some (d, v) from ht))
      exact Or.inl ⟨want_none rfl, fun K hK => st_pick 53 64 65 (hdep ⟨26, .data⟩ (by simp) rfl _ _ rfl) (hdep ⟨37, .data⟩ (by simp) rfl _ _ rfl) (hK x hs)⟩
    · obtain rfl := Option.some.inj (show some _ = some o from ho)
      obtain ⟨rfl, rfl⟩ := Prod.mk.inj (Option.some.inj (show some (_, _) = some (d, v) from ht))
      exact Or.inl ⟨want_none rfl, fun K hK => st_assign 65 11 _ (hdep ⟨38, .data⟩ (by simp) rfl _ _ rfl) (hK x hs)⟩
  · intro x hs
    as_aux_lemma =>
    simp only [fill, List.foldl, Act.put, List.setIfInBounds_toArray, List.set_cons_zero, List.set_cons_succ]
    go_wp2
    obtain ⟨v69, Hv69⟩ : ∃ v, Hid (v = fcalc 4 (a % M) (z % M) (z % M)) := ⟨_, rfl⟩
    have E71 : eqw v69 z = true := k71 HZ.out Hv69.out
    obtain ⟨v76, Hv76⟩ : ∃ v, Hid (v = fcalc 6 (a % M) (z % M) (z % M)) := ⟨_, rfl⟩
    have E78 : eqw v76 z = true := k78 HZ.out Hv76.out
    obtain ⟨v84, Hv84⟩ : ∃ v, Hid (v = fcalc 5 (a % M) (z % M) (z % M)) := ⟨_, rfl⟩
    have E86 : eqw v84 z = true := k86 HZ.out Hv84.out
    obtain ⟨v92, Hv92⟩ : ∃ v, Hid (v = fcalc 7 (a % M) (z % M) (z % M)) := ⟨_, rfl⟩
    have E94 : eqw v92 z = true := k94 HZ.out Hv92.out
    refine wp_region_table (by kernel_rfl) (RK w a b c z o p9 p10) [(66, wv a), (67, wv z), (68, wv z), (69, wv v69), (70, wv z), (71, .bool true), (72, .bool true), (73, wv a), (74, wv z), (75, wv z), (76, wv v76), (77, wv z), (78, .bool true), (79, .bool true), (80, .bool true), (81, wv a), (82, wv z), (83, wv z), (84, wv v84), (85, wv z), (86, .bool true), (87, .bool true), (88, .bool true), (89, wv a), (90, wv z), (91, wv z), (92, wv v92), (93, wv z), (94, .bool true), (95, .bool true), (12, .bool true)] (by kernel_rfl) rfl (by kernel_rfl) (by kernel_rfl) hs.drew [(4, .pointer (some ⟨w.heap.size, 0, none⟩)), (9, .pointer (some ⟨p9, 0, none⟩))] (by intro p hp; simp only [List.mem_cons, List.not_mem_nil, or_false] at hp; rcases hp with rfl | rfl <;> rfl) (by kernel_rfl) [] (fun p hp => by cases hp) ?_ ?_
    · as_aux_lemma =>
      intro i o d v ho ht s x hs hb hb2 hdep
      have hi : i < 31 := (Array.getElem?_eq_some_iff.1 ho).1
      rcases j31 hi with rfl | rfl | rfl | rfl | rfl | rfl | rfl | rfl | rfl | rfl | rfl | rfl | rfl | rfl | rfl | rfl | rfl | rfl | rfl | rfl | rfl | rfl | rfl | rfl | rfl | rfl | rfl | rfl | rfl | rfl | rfl
      · obtain rfl := Option.some.inj (show some _ = some o from ho)
        obtain ⟨rfl, rfl⟩ := Prod.mk.inj (Option.some.inj (show some (_, _) = some (d, v) from ht))
        exact Or.inl ⟨want_none rfl, fun K hK => st_load 4 66 _ _ (hb _ (List.Mem.head _)) hs.ra (hK x hs)⟩
      · obtain rfl := Option.some.inj (show some _ = some o from ho)
        obtain ⟨rfl, rfl⟩ := Prod.mk.inj (Option.some.inj (show some (_, _) = some (d, v) from ht))
        exact Or.inl ⟨want_none rfl, fun K hK => st_load 9 67 _ _ (hb _ (List.Mem.tail _ (List.Mem.head _))) hs.r9 (hK x hs)⟩
      · obtain rfl := Option.some.inj (show some _ = some o from ho)
        obtain ⟨rfl, rfl⟩ := Prod.mk.inj (Option.some.inj (show some (_, _) = some (d, v) from ht))
        exact Or.inl ⟨want_none rfl, fun K hK => st_load 9 68 _ _ (hb _ (List.Mem.tail _ (List.Mem.head _))) hs.r9 (hK x hs)⟩
      · obtain rfl := Option.some.inj (show some _ = some o from ho)
        obtain ⟨rfl, rfl⟩ := Prod.mk.inj (Option.some.inj (show some (_, _) = some (d, v) from ht))
        exact Or.inl ⟨want_none rfl, fun K hK => st_calc 4 66 67 68 69 _ _ _ _ (by decide) (by decide) (hdep ⟨0, .data⟩ (by simp) rfl _ _ rfl) (hdep ⟨1, .data⟩ (by simp) rfl _ _ rfl) (hdep ⟨2, .data⟩ (by simp) rfl _ _ rfl) Hv69 (fun x' hb' => hK x' (hs.call hb'))⟩
      · obtain rfl := Option.some.inj (show some _ = some o from ho)
        obtain ⟨rfl, rfl⟩ := Prod.mk.inj (Option.some.inj (show some (_, _) = some (d, v) from ht))
        exact Or.inl ⟨want_none rfl, fun K hK => st_load 9 70 _ _ (hb _ (List.Mem.tail _ (List.Mem.head _))) hs.r9 (hK x hs)⟩
      · obtain rfl := Option.some.inj (show some _ = some o from ho)
        obtain ⟨rfl, rfl⟩ := Prod.mk.inj (Option.some.inj (show some (_, _) = some (d, v) from ht))
        exact Or.inl ⟨want_none rfl, fun K hK => st_eql 69 70 71 _ _ true (hdep ⟨3, .data⟩ (by simp) rfl _ _ rfl) (hdep ⟨4, .data⟩ (by simp) rfl _ _ rfl) E71 (hK x hs)⟩
      · obtain rfl := Option.some.inj (show some _ = some o from ho)
        obtain ⟨rfl, rfl⟩ := Prod.mk.inj (Option.some.inj (show some (_, _) = some (d, v) from ht))
        exact Or.inl ⟨want_none rfl, fun K hK => st_move 71 72 _ (hdep ⟨5, .data⟩ (by simp) rfl _ _ rfl) (hK x hs)⟩
      · obtain rfl := Option.some.inj (show some _ = some o from ho)
        obtain ⟨rfl, rfl⟩ := Prod.mk.inj (Option.some.inj (show some (_, _) = some (d, v) from ht))
        exact Or.inl ⟨want_some rfl rfl rfl (hdep ⟨6, .guard⟩ (by simp) rfl _ _ rfl), fun K hK => st_load 4 73 _ _ (hb _ (List.Mem.head _)) hs.ra (hK x hs)⟩
      · obtain rfl := Option.some.inj (show some _ = some o from ho)
        obtain ⟨rfl, rfl⟩ := Prod.mk.inj (Option.some.inj (show some (_, _) = some (d, v) from ht))
        exact Or.inl ⟨want_some rfl rfl rfl (hdep ⟨6, .guard⟩ (by simp) rfl _ _ rfl), fun K hK => st_load 9 74 _ _ (hb _ (List.Mem.tail _ (List.Mem.head _))) hs.r9 (hK x hs)⟩
      · obtain rfl := Option.some.inj (show some _ = some o from ho)
        obtain ⟨rfl, rfl⟩ := Prod.mk.inj (Option.some.inj (show some (_, _) = some (d, v) from ht))
        exact Or.inl ⟨want_some rfl rfl rfl (hdep ⟨6, .guard⟩ (by simp) rfl _ _ rfl), fun K hK => st_load 9 75 _ _ (hb _ (List.Mem.tail _ (List.Mem.head _))) hs.r9 (hK x hs)⟩
      · obtain rfl := Option.some.inj (show some _ = some o from ho)
        obtain ⟨rfl, rfl⟩ := Prod.mk.inj (Option.some.inj (show some (_, _) = some (d, v) from ht))
        exact Or.inl ⟨want_some rfl rfl rfl (hdep ⟨6, .guard⟩ (by simp) rfl _ _ rfl), fun K hK => st_calc 6 73 74 75 76 _ _ _ _ (by decide) (by decide) (hdep ⟨7, .data⟩ (by simp) rfl _ _ rfl) (hdep ⟨8, .data⟩ (by simp) rfl _ _ rfl) (hdep ⟨9, .data⟩ (by simp) rfl _ _ rfl) Hv76 (fun x' hb' => hK x' (hs.call hb'))⟩
      · obtain rfl := Option.some.inj (show some _ = some o from ho)
        obtain ⟨rfl, rfl⟩ := Prod.mk.inj (Option.some.inj (show some (_, _) = some (d, v) from ht))
        exact Or.inl ⟨want_some rfl rfl rfl (hdep ⟨6, .guard⟩ (by simp) rfl _ _ rfl), fun K hK => st_load 9 77 _ _ (hb _ (List.Mem.tail _ (List.Mem.head _))) hs.r9 (hK x hs)⟩
      · obtain rfl := Option.some.inj (show some _ = some o from ho)
        obtain ⟨rfl, rfl⟩ := Prod.mk.inj (Option.some.inj (show some (_, _) = some (d, v) from ht))
        exact Or.inl ⟨want_some rfl rfl rfl (hdep ⟨6, .guard⟩ (by simp) rfl _ _ rfl), fun K hK => st_eql 76 77 78 _ _ true (hdep ⟨10, .data⟩ (by simp) rfl _ _ rfl) (hdep ⟨11, .data⟩ (by simp) rfl _ _ rfl) E78 (hK x hs)⟩
      · obtain rfl := Option.some.inj (show some _ = some o from ho)
        obtain ⟨rfl, rfl⟩ := Prod.mk.inj (Option.some.inj (show some (_, _) = some (d, v) from ht))
        exact Or.inl ⟨want_none rfl, fun K hK => st_pick 72 78 79 (hdep ⟨6, .data⟩ (by simp) rfl _ _ rfl) (hdep ⟨12, .data⟩ (by simp) rfl _ _ rfl) (hK x hs)⟩
      · obtain rfl := Option.some.inj (show some _ = some o from ho)
        obtain ⟨rfl, rfl⟩ := Prod.mk.inj (Option.some.inj (show some (_, _) = some (d, v) from ht))
        exact Or.inl ⟨want_none rfl, fun K hK => st_move 79 80 _ (hdep ⟨13, .data⟩ (by simp) rfl _ _ rfl) (hK x hs)⟩
      · obtain rfl := Option.some.inj (show some _ = some o from ho)
        obtain ⟨rfl, rfl⟩ := Prod.mk.inj (Option.some.inj (show some (_, _) = some (d, v) from ht))
        exact Or.inl ⟨want_some rfl rfl rfl (hdep ⟨14, .guard⟩ (by simp) rfl _ _ rfl), fun K hK => st_load 4 81 _ _ (hb _ (List.Mem.head _)) hs.ra (hK x hs)⟩
      · obtain rfl := Option.some.inj (show some _ = some o from ho)
        obtain ⟨rfl, rfl⟩ := Prod.mk.inj (Option.some.inj (show some (_, _) = some (d, v) from ht))
        exact Or.inl ⟨want_some rfl rfl rfl (hdep ⟨14, .guard⟩ (by simp) rfl _ _ rfl), fun K hK => st_load 9 82 _ _ (hb _ (List.Mem.tail _ (List.Mem.head _))) hs.r9 (hK x hs)⟩
      · obtain rfl := Option.some.inj (show some _ = some o from ho)
        obtain ⟨rfl, rfl⟩ := Prod.mk.inj (Option.some.inj (show some (_, _) = some (d, v) from ht))
        exact Or.inl ⟨want_some rfl rfl rfl (hdep ⟨14, .guard⟩ (by simp) rfl _ _ rfl), fun K hK => st_load 9 83 _ _ (hb _ (List.Mem.tail _ (List.Mem.head _))) hs.r9 (hK x hs)⟩
      · obtain rfl := Option.some.inj (show some _ = some o from ho)
        obtain ⟨rfl, rfl⟩ := Prod.mk.inj (Option.some.inj (show some (_, _) = some (d, v) from ht))
        exact Or.inl ⟨want_some rfl rfl rfl (hdep ⟨14, .guard⟩ (by simp) rfl _ _ rfl), fun K hK => st_calc 5 81 82 83 84 _ _ _ _ (by decide) (by decide) (hdep ⟨15, .data⟩ (by simp) rfl _ _ rfl) (hdep ⟨16, .data⟩ (by simp) rfl _ _ rfl) (hdep ⟨17, .data⟩ (by simp) rfl _ _ rfl) Hv84 (fun x' hb' => hK x' (hs.call hb'))⟩
      · obtain rfl := Option.some.inj (show some _ = some o from ho)
        obtain ⟨rfl, rfl⟩ := Prod.mk.inj (Option.some.inj (show some (_, _) = some (d, v) from ht))
        exact Or.inl ⟨want_some rfl rfl rfl (hdep ⟨14, .guard⟩ (by simp) rfl _ _ rfl), fun K hK => st_load 9 85 _ _ (hb _ (List.Mem.tail _ (List.Mem.head _))) hs.r9 (hK x hs)⟩
      · obtain rfl := Option.some.inj (show some _ = some o from ho)
        obtain ⟨rfl, rfl⟩ := Prod.mk.inj (Option.some.inj (show some (_, _) = some (d, v) from ht))
        exact Or.inl ⟨want_some rfl rfl rfl (hdep ⟨14, .guard⟩ (by simp) rfl _ _ rfl), fun K hK => st_eql 84 85 86 _ _ true (hdep ⟨18, .data⟩ (by simp) rfl _ _ rfl) (hdep ⟨19, .data⟩ (by simp) rfl _ _ rfl) E86 (hK x hs)⟩
      · obtain rfl := Option.some.inj (show some _ = some o from ho)
        obtain ⟨rfl, rfl⟩ := Prod.mk.inj (Option.some.inj (show some (_, _) = some (d, v) from ht))
        exact Or.inl ⟨want_none rfl, fun K hK => st_pick 80 86 87 (hdep ⟨14, .data⟩ (by simp) rfl _ _ rfl) (hdep ⟨20, .data⟩ (by simp) rfl _ _ rfl) (hK x hs)⟩
      · obtain rfl := Option.some.inj (show some _ = some o from ho)
        obtain ⟨rfl, rfl⟩ := Prod.mk.inj (Option.some.inj (show some (_, _) = some (d, v) from ht))
        exact Or.inl ⟨want_none rfl, fun K hK => st_move 87 88 _ (hdep ⟨21, .data⟩ (by simp) rfl _ _ rfl) (hK x hs)⟩
      · obtain rfl := Option.some.inj (show some _ = some o from ho)
        obtain ⟨rfl, rfl⟩ := Prod.mk.inj (Option.some.inj (show some (_, _) = some (d, v) from ht))
        exact Or.inl ⟨want_some rfl rfl rfl (hdep ⟨22, .guard⟩ (by simp) rfl _ _ rfl), fun K hK => st_load 4 89 _ _ (hb _ (List.Mem.head _)) hs.ra (hK x hs)⟩
      · obtain rfl := Option.some.inj (show some _ = some o from ho)
        obtain ⟨rfl, rfl⟩ := Prod.mk.inj (Option.some.inj (show some (_, _) = some (d, v) from ht))
        exact Or.inl ⟨want_some rfl rfl rfl (hdep ⟨22, .guard⟩ (by simp) rfl _ _ rfl), fun K hK => st_load 9 90 _ _ (hb _ (List.Mem.tail _ (List.Mem.head _))) hs.r9 (hK x hs)⟩
      · obtain rfl := Option.some.inj (show some _ = some o from ho)
        obtain ⟨rfl, rfl⟩ := Prod.mk.inj (Option.some.inj (show some (_, _) = some (d, v) from ht))
        exact Or.inl ⟨want_some rfl rfl rfl (hdep ⟨22, .guard⟩ (by simp) rfl _ _ rfl), fun K hK => st_load 9 91 _ _ (hb _ (List.Mem.tail _ (List.Mem.head _))) hs.r9 (hK x hs)⟩
      · obtain rfl := Option.some.inj (show some _ = some o from ho)
        obtain ⟨rfl, rfl⟩ := Prod.mk.inj (Option.some.inj (show some (_, _) = some (d, v) from ht))
        exact Or.inl ⟨want_some rfl rfl rfl (hdep ⟨22, .guard⟩ (by simp) rfl _ _ rfl), fun K hK => st_calc 7 89 90 91 92 _ _ _ _ (by decide) (by decide) (hdep ⟨23, .data⟩ (by simp) rfl _ _ rfl) (hdep ⟨24, .data⟩ (by simp) rfl _ _ rfl) (hdep ⟨25, .data⟩ (by simp) rfl _ _ rfl) Hv92 (fun x' hb' => hK x' (hs.call hb'))⟩
      · obtain rfl := Option.some.inj (show some _ = some o from ho)
        obtain ⟨rfl, rfl⟩ := Prod.mk.inj (Option.some.inj (show some (_, _) = some (d, v) from ht))
        exact Or.inl ⟨want_some rfl rfl rfl (hdep ⟨22, .guard⟩ (by simp) rfl _ _ rfl), fun K hK => st_load 9 93 _ _ (hb _ (List.Mem.tail _ (List.Mem.head _))) hs.r9 (hK x hs)⟩
      · obtain rfl := Option.some.inj (show some _ = some o from ho)
        obtain ⟨rfl, rfl⟩ := Prod.mk.inj (Option.some.inj (show some (_, _) = some (d, v) from ht))
        exact Or.inl ⟨want_some rfl rfl rfl (hdep ⟨22, .guard⟩ (by simp) rfl _ _ rfl), fun K hK => st_eql 92 93 94 _ _ true (hdep ⟨26, .data⟩ (by simp) rfl _ _ rfl) (hdep ⟨27, .data⟩ (by simp) rfl _ _ rfl) E94 (hK x hs)⟩
      · obtain rfl := Option.some.inj (show some _ = some o from ho)
        obtain ⟨rfl, rfl⟩ := Prod.mk.inj (Option.some.inj (show some (_, _) = some (d, v) from ht))
        exact Or.inl ⟨want_none rfl, fun K hK => st_pick 88 94 95 (hdep ⟨22, .data⟩ (by simp) rfl _ _ rfl) (hdep ⟨28, .data⟩ (by simp) rfl _ _ rfl) (hK x hs)⟩
      · obtain rfl := Option.some.inj (show some _ = some o from ho)
        obtain ⟨rfl, rfl⟩ := Prod.mk.inj (Option.some.inj (show some (_, _) = some (d, v) from ht))
        exact Or.inl ⟨want_none rfl, fun K hK => st_assign 95 12 _ (hdep ⟨29, .data⟩ (by simp) rfl _ _ rfl) (hK x hs)⟩
    · intro x hs
      as_aux_lemma =>
      simp only [fill, List.foldl, Act.put, List.setIfInBounds_toArray, List.set_cons_zero, List.set_cons_succ]
      obtain ⟨b0, b1, b2, b3⟩ := row_cells4 hs.rb
      obtain ⟨z0, z1, z2, z3⟩ := row_cells4 hs.r9
      obtain ⟨t, HT⟩ : ∃ t, Hid (t = eqw b z) := ⟨_, rfl⟩
      have he : ∀ w, (Op.equalIn 10000 24 (wv b) (wv z)).run Try.prog w = .ok t w := fun w => by rw [eq_words, HT.out]
      go_upto_if 98 with fail
      clear b0 b1 b2 b3 z0 z1 z2 z3
      go_cut [12] (fun t12 wx => t12 = .bool true ∧ RK w a b c z o p9 p10 wx)
      case first =>
        as_aux_lemma =>
        cases t
        · skip
          obtain ⟨ca0, ca1, ca2, ca3⟩ := row_cells4 hs.ra
          have cal := (hs.ra).lt
          obtain ⟨cb0, cb1, cb2, cb3⟩ := row_cells4 hs.rb
          have cbl := (hs.rb).lt
          obtain ⟨cz0, cz1, cz2, cz3⟩ := row_cells4 hs.r9
          have czl := (hs.r9).lt
          go_wp2_with fail
          refine (kcalc_any 4 (by omega) (by show _ = _; decide) a b z _).mono ?_
          rintro e w3 ⟨q, HQ, rfl, hb⟩
          replace hs := hs.call hb
          clear ca0 ca1 ca2 ca3 cal cb0 cb1 cb2 cb3 cbl cz0 cz1 cz2 cz3 czl
          clear hb
          obtain ⟨ca0, ca1, ca2, ca3⟩ := row_cells4 hs.ra
          have cal := (hs.ra).lt
          obtain ⟨cb0, cb1, cb2, cb3⟩ := row_cells4 hs.rb
          have cbl := (hs.rb).lt
          obtain ⟨cz0, cz1, cz2, cz3⟩ := row_cells4 hs.r9
          have czl := (hs.r9).lt
          go_wp2_with fail
          refine (kcalc_any 6 (by omega) (by show _ = _; decide) a b z _).mono ?_
          rintro e w4 ⟨r, HRR, rfl, hb⟩
          replace hs := (hs.alloc _).call hb
          have rq := row_below (row_lit4 (n := w3.heap.size) (limb q) rfl rfl rfl rfl rfl) hb
          clear ca0 ca1 ca2 ca3 cal cb0 cb1 cb2 cb3 cbl cz0 cz1 cz2 cz3 czl
          clear hb
          obtain ⟨ca0, ca1, ca2, ca3⟩ := row_cells4 hs.ra
          have cal := (hs.ra).lt
          obtain ⟨cb0, cb1, cb2, cb3⟩ := row_cells4 hs.rb
          have cbl := (hs.rb).lt
          obtain ⟨cz0, cz1, cz2, cz3⟩ := row_cells4 hs.r9
          have czl := (hs.r9).lt
          have hlt : r % M < b % M := klt (kb0 HZ.out HT.out) HRR.out
          go_wp2_with fail
          refine (kless_true r b hlt _).mono ?_
          rintro e w5 ⟨rfl, hb⟩
          replace hs := (hs.alloc _).call hb
          replace rq := row_below (rq.alloc _) hb
          have rr := row_below (row_lit4 (n := w4.heap.size) (limb r) rfl rfl rfl rfl rfl) hb
          clear ca0 ca1 ca2 ca3 cal cb0 cb1 cb2 cb3 cbl cz0 cz1 cz2 cz3 czl
          clear hb hlt
          obtain ⟨ca0, ca1, ca2, ca3⟩ := row_cells4 hs.ra
          have cal := (hs.ra).lt
          obtain ⟨cb0, cb1, cb2, cb3⟩ := row_cells4 hs.rb
          have cbl := (hs.rb).lt
          obtain ⟨cz0, cz1, cz2, cz3⟩ := row_cells4 hs.r9
          have czl := (hs.r9).lt
          go_wp2_with fail
          refine (kcalc_any 5 (by omega) (by show _ = _; decide) a b z _).mono ?_
          rintro e w6 ⟨sq, HSQ, rfl, hb⟩
          replace hs := hs.call hb
          replace rq := row_below rq hb
          replace rr := row_below rr hb
          clear ca0 ca1 ca2 ca3 cal cb0 cb1 cb2 cb3 cbl cz0 cz1 cz2 cz3 czl
          clear hb
          obtain ⟨ca0, ca1, ca2, ca3⟩ := row_cells4 hs.ra
          have cal := (hs.ra).lt
          obtain ⟨cb0, cb1, cb2, cb3⟩ := row_cells4 hs.rb
          have cbl := (hs.rb).lt
          obtain ⟨cz0, cz1, cz2, cz3⟩ := row_cells4 hs.r9
          have czl := (hs.r9).lt
          go_wp2_with fail
          refine (kcalc_any 7 (by omega) (by show _ = _; decide) a b z _).mono ?_
          rintro e w7 ⟨sr, HSR, rfl, hb⟩
          replace hs := (hs.alloc _).call hb
          replace rq := row_below (rq.alloc _) hb
          replace rr := row_below (rr.alloc _) hb
          have rs := row_below (row_lit4 (n := w6.heap.size) (limb sq) rfl rfl rfl rfl rfl) hb
          clear ca0 ca1 ca2 ca3 cal cb0 cb1 cb2 cb3 cbl cz0 cz1 cz2 cz3 czl
          clear hb
          go_wp2
          replace hs : (fun x => RK w a b c z o p9 p10 x ∧ x.rowIs w3.heap.size 24 4 (u64s (limb q)) ∧ x.rowIs w4.heap.size 24 4 (u64s (limb r)) ∧ x.rowIs w6.heap.size 24 4 (u64s (limb sq)) ∧ x.rowIs w7.heap.size 24 4 (u64s (limb sr))) (w7.alloc (.cells #[.int .u64 (limb sr 0), .int .u64 (limb sr 1), .int .u64 (limb sr 2), .int .u64 (limb sr 3)] 24)) := ⟨hs.alloc _, rq.alloc _, rr.alloc _, rs.alloc _, row_lit4 (limb sr) rfl rfl rfl rfl rfl⟩
          obtain ⟨v126, Hv126⟩ : ∃ v, Hid (v = fcalc 2 (q % M) (b % M) (z % M)) := ⟨_, rfl⟩
          obtain ⟨v128, Hv128⟩ : ∃ v, Hid (v = fadd (v126 % M) (r % M)) := ⟨_, rfl⟩
          have E130 : eqw v128 a = true := k130 (kb0 HZ.out HT.out) HQ.out HRR.out Hv126.out Hv128.out
          obtain ⟨v136, Hv136⟩ : ∃ v, Hid (v = fcalc 2 (sq % M) (b % M) (z % M)) := ⟨_, rfl⟩
          obtain ⟨v138, Hv138⟩ : ∃ v, Hid (v = fadd (v136 % M) (sr % M)) := ⟨_, rfl⟩
          have E140 : eqw v138 a = true := k140 (kb0 HZ.out HT.out) HSQ.out HSR.out Hv136.out Hv138.out
          refine wp_region_table (by kernel_rfl) (fun x => RK w a b c z o p9 p10 x ∧ x.rowIs w3.heap.size 24 4 (u64s (limb q)) ∧ x.rowIs w4.heap.size 24 4 (u64s (limb r)) ∧ x.rowIs w6.heap.size 24 4 (u64s (limb sq)) ∧ x.rowIs w7.heap.size 24 4 (u64s (limb sr))) [(118, .bool true), (119, .bool true), (120, .bool true), (121, .bool true), (122, .bool true), (123, wv q), (124, wv b), (125, wv z), (126, wv v126), (127, wv r), (128, wv v128), (129, wv a), (130, .bool true), (131, .bool true), (132, .bool true), (133, wv sq), (134, wv b), (135, wv z), (136, wv v136), (137, wv sr), (138, wv v138), (139, wv a), (140, .bool true), (141, .bool true), (12, .bool true)] (by kernel_rfl) rfl (by kernel_rfl) (by kernel_rfl) ⟨hs.1.drew, hs.2.1, hs.2.2.1, hs.2.2.2.1, hs.2.2.2.2⟩ [(15, .bool true), (13, .pointer (some ⟨w3.heap.size, 0, none⟩)), (5, .pointer (some ⟨w.heap.size + 1, 0, none⟩)), (9, .pointer (some ⟨p9, 0, none⟩)), (14, .pointer (some ⟨w4.heap.size, 0, none⟩)), (4, .pointer (some ⟨w.heap.size, 0, none⟩)), (16, .pointer (some ⟨w6.heap.size, 0, none⟩)), (17, .pointer (some ⟨w7.heap.size, 0, none⟩))] (by intro p hp; simp only [List.mem_cons, List.not_mem_nil, or_false] at hp; rcases hp with rfl | rfl | rfl | rfl | rfl | rfl | rfl | rfl <;> rfl) (by kernel_rfl) [(12, .bool true)] (by intro p hp; simp only [List.mem_cons, List.not_mem_nil, or_false] at hp; rcases hp with rfl; exact ⟨rfl, (List.Mem.tail _ (List.Mem.tail _ (List.Mem.tail _ (List.Mem.tail _ (List.Mem.tail _ (List.Mem.tail _ (List.Mem.tail _ (List.Mem.tail _ (List.Mem.tail _ (List.Mem.tail _ (List.Mem.tail _ (List.Mem.tail _ (List.Mem.tail _ (List.Mem.tail _ (List.Mem.tail _ (List.Mem.tail _ (List.Mem.tail _ (List.Mem.tail _ (List.Mem.tail _ (List.Mem.tail _ (List.Mem.tail _ (List.Mem.tail _ (List.Mem.tail _ (List.Mem.tail _ (List.Mem.head _)))))))))))))))))))))))))⟩) ?_ ?_
          · as_aux_lemma =>
            intro i o d v ho ht s x hs hb hb2 hdep
            have hi : i < 25 := (Array.getElem?_eq_some_iff.1 ho).1
            rcases j25 hi with rfl | rfl | rfl | rfl | rfl | rfl | rfl | rfl | rfl | rfl | rfl | rfl | rfl | rfl | rfl | rfl | rfl | rfl | rfl | rfl | rfl | rfl | rfl | rfl | rfl
            · obtain rfl := Option.some.inj (show some _ = some o from ho)
              obtain ⟨rfl, rfl⟩ := Prod.mk.inj (Option.some.inj (show some (_, _) = some (d, v) from ht))
              exact Or.inl ⟨want_none rfl, fun K hK => st_move 12 118 _ (hb2 _ (List.Mem.head _)) (hK x hs)⟩
            · obtain rfl := Option.some.inj (show some _ = some o from ho)
              obtain ⟨rfl, rfl⟩ := Prod.mk.inj (Option.some.inj (show some (_, _) = some (d, v) from ht))
              exact Or.inl ⟨want_none rfl, fun K hK => st_move 118 119 _ (hdep ⟨0, .data⟩ (by simp) rfl _ _ rfl) (hK x hs)⟩
            · obtain rfl := Option.some.inj (show some _ = some o from ho)
              obtain ⟨rfl, rfl⟩ := Prod.mk.inj (Option.some.inj (show some (_, _) = some (d, v) from ht))
              exact Or.inl ⟨want_some rfl rfl rfl (hdep ⟨1, .guard⟩ (by simp) rfl _ _ rfl), fun K hK => st_move 15 120 _ (hb _ (List.Mem.head _)) (hK x hs)⟩
            · obtain rfl := Option.some.inj (show some _ = some o from ho)
              obtain ⟨rfl, rfl⟩ := Prod.mk.inj (Option.some.inj (show some (_, _) = some (d, v) from ht))
              exact Or.inl ⟨want_none rfl, fun K hK => st_pick 119 120 121 (hdep ⟨1, .data⟩ (by simp) rfl _ _ rfl) (hdep ⟨2, .data⟩ (by simp) rfl _ _ rfl) (hK x hs)⟩
            · obtain rfl := Option.some.inj (show some _ = some o from ho)
              obtain ⟨rfl, rfl⟩ := Prod.mk.inj (Option.some.inj (show some (_, _) = some (d, v) from ht))
              exact Or.inl ⟨want_none rfl, fun K hK => st_move 121 122 _ (hdep ⟨3, .data⟩ (by simp) rfl _ _ rfl) (hK x hs)⟩
            · obtain rfl := Option.some.inj (show some _ = some o from ho)
              obtain ⟨rfl, rfl⟩ := Prod.mk.inj (Option.some.inj (show some (_, _) = some (d, v) from ht))
              exact Or.inl ⟨want_some rfl rfl rfl (hdep ⟨4, .guard⟩ (by simp) rfl _ _ rfl), fun K hK => st_load 13 123 _ _ (hb _ (List.Mem.tail _ (List.Mem.head _))) hs.2.1 (hK x hs)⟩
            · obtain rfl := Option.some.inj (show some _ = some o from ho)
              obtain ⟨rfl, rfl⟩ := Prod.mk.inj (Option.some.inj (show some (_, _) = some (d, v) from ht))
              exact Or.inl ⟨want_some rfl rfl rfl (hdep ⟨4, .guard⟩ (by simp) rfl _ _ rfl), fun K hK => st_load 5 124 _ _ (hb _ (List.Mem.tail _ (List.Mem.tail _ (List.Mem.head _)))) hs.1.rb (hK x hs)⟩
            · obtain rfl := Option.some.inj (show some _ = some o from ho)
              obtain ⟨rfl, rfl⟩ := Prod.mk.inj (Option.some.inj (show some (_, _) = some (d, v) from ht))
              exact Or.inl ⟨want_some rfl rfl rfl (hdep ⟨4, .guard⟩ (by simp) rfl _ _ rfl), fun K hK => st_load 9 125 _ _ (hb _ (List.Mem.tail _ (List.Mem.tail _ (List.Mem.tail _ (List.Mem.head _))))) hs.1.r9 (hK x hs)⟩
            · obtain rfl := Option.some.inj (show some _ = some o from ho)
              obtain ⟨rfl, rfl⟩ := Prod.mk.inj (Option.some.inj (show some (_, _) = some (d, v) from ht))
              exact Or.inl ⟨want_some rfl rfl rfl (hdep ⟨4, .guard⟩ (by simp) rfl _ _ rfl), fun K hK => st_calc 2 123 124 125 126 _ _ _ _ (by decide) (by decide) (hdep ⟨5, .data⟩ (by simp) rfl _ _ rfl) (hdep ⟨6, .data⟩ (by simp) rfl _ _ rfl) (hdep ⟨7, .data⟩ (by simp) rfl _ _ rfl) Hv126 (fun x' hb' => hK x' ((⟨hs.1.call hb', row_below hs.2.1 hb', row_below hs.2.2.1 hb', row_below hs.2.2.2.1 hb', row_below hs.2.2.2.2 hb'⟩)))⟩
            · obtain rfl := Option.some.inj (show some _ = some o from ho)
              obtain ⟨rfl, rfl⟩ := Prod.mk.inj (Option.some.inj (show some (_, _) = some (d, v) from ht))
              exact Or.inl ⟨want_some rfl rfl rfl (hdep ⟨4, .guard⟩ (by simp) rfl _ _ rfl), fun K hK => st_load 14 127 _ _ (hb _ (List.Mem.tail _ (List.Mem.tail _ (List.Mem.tail _ (List.Mem.tail _ (List.Mem.head _)))))) hs.2.2.1 (hK x hs)⟩
            · obtain rfl := Option.some.inj (show some _ = some o from ho)
              obtain ⟨rfl, rfl⟩ := Prod.mk.inj (Option.some.inj (show some (_, _) = some (d, v) from ht))
              exact Or.inl ⟨want_some rfl rfl rfl (hdep ⟨4, .guard⟩ (by simp) rfl _ _ rfl), fun K hK => st_sum 126 127 128 _ _ _ (hdep ⟨8, .data⟩ (by simp) rfl _ _ rfl) (hdep ⟨9, .data⟩ (by simp) rfl _ _ rfl) Hv128 (fun x' hb' => hK x' ((⟨hs.1.call hb', row_below hs.2.1 hb', row_below hs.2.2.1 hb', row_below hs.2.2.2.1 hb', row_below hs.2.2.2.2 hb'⟩)))⟩
            · obtain rfl := Option.some.inj (show some _ = some o from ho)
              obtain ⟨rfl, rfl⟩ := Prod.mk.inj (Option.some.inj (show some (_, _) = some (d, v) from ht))
              exact Or.inl ⟨want_some rfl rfl rfl (hdep ⟨4, .guard⟩ (by simp) rfl _ _ rfl), fun K hK => st_load 4 129 _ _ (hb _ (List.Mem.tail _ (List.Mem.tail _ (List.Mem.tail _ (List.Mem.tail _ (List.Mem.tail _ (List.Mem.head _))))))) hs.1.ra (hK x hs)⟩
            · obtain rfl := Option.some.inj (show some _ = some o from ho)
              obtain ⟨rfl, rfl⟩ := Prod.mk.inj (Option.some.inj (show some (_, _) = some (d, v) from ht))
              exact Or.inl ⟨want_some rfl rfl rfl (hdep ⟨4, .guard⟩ (by simp) rfl _ _ rfl), fun K hK => st_eql 128 129 130 _ _ true (hdep ⟨10, .data⟩ (by simp) rfl _ _ rfl) (hdep ⟨11, .data⟩ (by simp) rfl _ _ rfl) E130 (hK x hs)⟩
            · obtain rfl := Option.some.inj (show some _ = some o from ho)
              obtain ⟨rfl, rfl⟩ := Prod.mk.inj (Option.some.inj (show some (_, _) = some (d, v) from ht))
              exact Or.inl ⟨want_none rfl, fun K hK => st_pick 122 130 131 (hdep ⟨4, .data⟩ (by simp) rfl _ _ rfl) (hdep ⟨12, .data⟩ (by simp) rfl _ _ rfl) (hK x hs)⟩
            · obtain rfl := Option.some.inj (show some _ = some o from ho)
              obtain ⟨rfl, rfl⟩ := Prod.mk.inj (Option.some.inj (show some (_, _) = some (d, v) from ht))
              exact Or.inl ⟨want_none rfl, fun K hK => st_move 131 132 _ (hdep ⟨13, .data⟩ (by simp) rfl _ _ rfl) (hK x hs)⟩
            · obtain rfl := Option.some.inj (show some _ = some o from ho)
              obtain ⟨rfl, rfl⟩ := Prod.mk.inj (Option.some.inj (show some (_, _) = some (d, v) from ht))
              exact Or.inl ⟨want_some rfl rfl rfl (hdep ⟨14, .guard⟩ (by simp) rfl _ _ rfl), fun K hK => st_load 16 133 _ _ (hb _ (List.Mem.tail _ (List.Mem.tail _ (List.Mem.tail _ (List.Mem.tail _ (List.Mem.tail _ (List.Mem.tail _ (List.Mem.head _)))))))) hs.2.2.2.1 (hK x hs)⟩
            · obtain rfl := Option.some.inj (show some _ = some o from ho)
              obtain ⟨rfl, rfl⟩ := Prod.mk.inj (Option.some.inj (show some (_, _) = some (d, v) from ht))
              exact Or.inl ⟨want_some rfl rfl rfl (hdep ⟨14, .guard⟩ (by simp) rfl _ _ rfl), fun K hK => st_load 5 134 _ _ (hb _ (List.Mem.tail _ (List.Mem.tail _ (List.Mem.head _)))) hs.1.rb (hK x hs)⟩
            · obtain rfl := Option.some.inj (show some _ = some o from ho)
              obtain ⟨rfl, rfl⟩ := Prod.mk.inj (Option.some.inj (show some (_, _) = some (d, v) from ht))
              exact Or.inl ⟨want_some rfl rfl rfl (hdep ⟨14, .guard⟩ (by simp) rfl _ _ rfl), fun K hK => st_load 9 135 _ _ (hb _ (List.Mem.tail _ (List.Mem.tail _ (List.Mem.tail _ (List.Mem.head _))))) hs.1.r9 (hK x hs)⟩
            · obtain rfl := Option.some.inj (show some _ = some o from ho)
              obtain ⟨rfl, rfl⟩ := Prod.mk.inj (Option.some.inj (show some (_, _) = some (d, v) from ht))
              exact Or.inl ⟨want_some rfl rfl rfl (hdep ⟨14, .guard⟩ (by simp) rfl _ _ rfl), fun K hK => st_calc 2 133 134 135 136 _ _ _ _ (by decide) (by decide) (hdep ⟨15, .data⟩ (by simp) rfl _ _ rfl) (hdep ⟨16, .data⟩ (by simp) rfl _ _ rfl) (hdep ⟨17, .data⟩ (by simp) rfl _ _ rfl) Hv136 (fun x' hb' => hK x' ((⟨hs.1.call hb', row_below hs.2.1 hb', row_below hs.2.2.1 hb', row_below hs.2.2.2.1 hb', row_below hs.2.2.2.2 hb'⟩)))⟩
            · obtain rfl := Option.some.inj (show some _ = some o from ho)
              obtain ⟨rfl, rfl⟩ := Prod.mk.inj (Option.some.inj (show some (_, _) = some (d, v) from ht))
              exact Or.inl ⟨want_some rfl rfl rfl (hdep ⟨14, .guard⟩ (by simp) rfl _ _ rfl), fun K hK => st_load 17 137 _ _ (hb _ (List.Mem.tail _ (List.Mem.tail _ (List.Mem.tail _ (List.Mem.tail _ (List.Mem.tail _ (List.Mem.tail _ (List.Mem.tail _ (List.Mem.head _))))))))) hs.2.2.2.2 (hK x hs)⟩
            · obtain rfl := Option.some.inj (show some _ = some o from ho)
              obtain ⟨rfl, rfl⟩ := Prod.mk.inj (Option.some.inj (show some (_, _) = some (d, v) from ht))
              exact Or.inl ⟨want_some rfl rfl rfl (hdep ⟨14, .guard⟩ (by simp) rfl _ _ rfl), fun K hK => st_sum 136 137 138 _ _ _ (hdep ⟨18, .data⟩ (by simp) rfl _ _ rfl) (hdep ⟨19, .data⟩ (by simp) rfl _ _ rfl) Hv138 (fun x' hb' => hK x' ((⟨hs.1.call hb', row_below hs.2.1 hb', row_below hs.2.2.1 hb', row_below hs.2.2.2.1 hb', row_below hs.2.2.2.2 hb'⟩)))⟩
            · obtain rfl := Option.some.inj (show some _ = some o from ho)
              obtain ⟨rfl, rfl⟩ := Prod.mk.inj (Option.some.inj (show some (_, _) = some (d, v) from ht))
              exact Or.inl ⟨want_some rfl rfl rfl (hdep ⟨14, .guard⟩ (by simp) rfl _ _ rfl), fun K hK => st_load 4 139 _ _ (hb _ (List.Mem.tail _ (List.Mem.tail _ (List.Mem.tail _ (List.Mem.tail _ (List.Mem.tail _ (List.Mem.head _))))))) hs.1.ra (hK x hs)⟩
            · obtain rfl := Option.some.inj (show some _ = some o from ho)
              obtain ⟨rfl, rfl⟩ := Prod.mk.inj (Option.some.inj (show some (_, _) = some (d, v) from ht))
              exact Or.inl ⟨want_some rfl rfl rfl (hdep ⟨14, .guard⟩ (by simp) rfl _ _ rfl), fun K hK => st_eql 138 139 140 _ _ true (hdep ⟨20, .data⟩ (by simp) rfl _ _ rfl) (hdep ⟨21, .data⟩ (by simp) rfl _ _ rfl) E140 (hK x hs)⟩
            · obtain rfl := Option.some.inj (show some _ = some o from ho)
              obtain ⟨rfl, rfl⟩ := Prod.mk.inj (Option.some.inj (show some (_, _) = some (d, v) from ht))
              exact Or.inl ⟨want_none rfl, fun K hK => st_pick 132 140 141 (hdep ⟨14, .data⟩ (by simp) rfl _ _ rfl) (hdep ⟨22, .data⟩ (by simp) rfl _ _ rfl) (hK x hs)⟩
            · obtain rfl := Option.some.inj (show some _ = some o from ho)
              obtain ⟨rfl, rfl⟩ := Prod.mk.inj (Option.some.inj (show some (_, _) = some (d, v) from ht))
              exact Or.inl ⟨want_none rfl, fun K hK => st_assign 141 12 _ (hdep ⟨23, .data⟩ (by simp) rfl _ _ rfl) (hK x hs)⟩
          · intro x hs
            as_aux_lemma =>
            simp only [fill, List.foldl, Act.put, List.setIfInBounds_toArray, List.set_cons_zero, List.set_cons_succ]
            go_wp2_with fail
            go_meet
            case rel => exact ⟨rfl, hs.1⟩
        · go_wp2_with fail
          go_meet
          case rel => exact ⟨rfl, hs⟩
      case rest =>
        as_aux_lemma =>
        obtain ⟨rfl, hs⟩ := hcut
        go_upto_if 145 with fail
        go_cut [18] (fun t18 wx => ∃ k : Nat, k < 200 ∧ t18 = .int .i64 (k : Int) ∧ RK w a b c z o p9 p10 wx)
        case first =>
          obtain ⟨k, hk, hkn⟩ : ∃ k : Nat, k < 200 ∧ (n.tmod 200 = (k : Int) ∨ (0 < k ∧ n.tmod 200 = -(k : Int))) := tmod_cases n
          rcases hkn with hkn | ⟨hk0, hkn⟩
          · go_wp2_with fail
            go_meet
            case rel => exact ⟨k, hk, by rw [hkn], hs⟩
          · go_wp2_with fail
            go_meet
            case rel => exact ⟨k, hk, rfl, hs⟩
        case rest =>
          as_aux_lemma =>
          obtain ⟨k, hk, rfl, hs⟩ := hcut
          go_wp2
          obtain ⟨two, HTWO⟩ : ∃ v, Hid (v = fcalc 10 (2 % M) (k % M) (z % M)) := ⟨_, rfl⟩
          refine wp_region_new 5 19 152 two 4 (fun x => RK w a b c z o p9 p10 x ∧ wc.heap.size ≤ x.heap.size) [(148, wv 2), (149, .int .i64 (k : Int)), (150, wv k), (151, wv z), (152, wv two)] (by kernel_rfl) rfl rfl (by kernel_rfl) (by kernel_rfl) ⟨hs.drew, Nat.le_refl _⟩ (fun x o h => ⟨h.1.alloc _, by have := h.2; simp; omega⟩) (fun x p v h hp => ⟨h.1.setFar hs hp v, by simpa using h.2⟩) (fun x h => h.2) [(18, .int .i64 (k : Int)), (9, .pointer (some ⟨p9, 0, none⟩))] (by intro p hp; simp only [List.mem_cons, List.not_mem_nil, or_false] at hp; rcases hp with rfl | rfl <;> rfl) (by kernel_rfl) rfl rfl rfl (by simp) (by simp) ?_ ?_
          · as_aux_lemma =>
            intro i o d v him ho ht s x hs hb hdep
            rcases j5 him with rfl | rfl | rfl | rfl | rfl
            · obtain rfl := Option.some.inj (show some _ = some o from ho)
              obtain ⟨rfl, rfl⟩ := Prod.mk.inj (Option.some.inj (show some (_, _) = some (d, v) from ht))
              exact ⟨want_none rfl, fun K hK => st_small_c _ 148 2 rfl (by decide) (fun x' hb' => hK x' ⟨hs.1.call hb', Nat.le_trans hs.2 hb'.size⟩ hb')⟩
            · obtain rfl := Option.some.inj (show some _ = some o from ho)
              obtain ⟨rfl, rfl⟩ := Prod.mk.inj (Option.some.inj (show some (_, _) = some (d, v) from ht))
              exact ⟨want_none rfl, fun K hK => st_move 18 149 _ (hb _ (List.Mem.head _)) (hK x hs (Below.refl _ _))⟩
            · obtain rfl := Option.some.inj (show some _ = some o from ho)
              obtain ⟨rfl, rfl⟩ := Prod.mk.inj (Option.some.inj (show some (_, _) = some (d, v) from ht))
              exact ⟨want_none rfl, fun K hK => st_small 149 150 k (hdep ⟨1, .data⟩ (by simp) rfl _ _ rfl) (by omega) (fun x' hb' => hK x' ⟨hs.1.call hb', Nat.le_trans hs.2 hb'.size⟩ hb')⟩
            · obtain rfl := Option.some.inj (show some _ = some o from ho)
              obtain ⟨rfl, rfl⟩ := Prod.mk.inj (Option.some.inj (show some (_, _) = some (d, v) from ht))
              exact ⟨want_none rfl, fun K hK => st_load 9 151 _ _ (hb _ (List.Mem.tail _ (List.Mem.head _))) hs.1.r9 (hK x hs (Below.refl _ _))⟩
            · obtain rfl := Option.some.inj (show some _ = some o from ho)
              obtain ⟨rfl, rfl⟩ := Prod.mk.inj (Option.some.inj (show some (_, _) = some (d, v) from ht))
              exact ⟨want_none rfl, fun K hK => st_calc 10 148 150 151 152 _ _ _ _ (by decide) (by decide) (hdep ⟨0, .data⟩ (by simp) rfl _ _ rfl) (hdep ⟨2, .data⟩ (by simp) rfl _ _ rfl) (hdep ⟨3, .data⟩ (by simp) rfl _ _ rfl) HTWO (fun x' hb' => hK x' ⟨hs.1.call hb', Nat.le_trans hs.2 hb'.size⟩ hb')⟩
          · intro x p19 hs hp r19
            as_aux_lemma =>
            simp only [List.cons_append, List.nil_append]
            simp only [fill, List.foldl, Act.put, List.setIfInBounds_toArray, List.set_cons_zero, List.set_cons_succ]
            replace hs := hs.1
            go_wp2
            replace hs : (fun x => RK w a b c z o p9 p10 x ∧ x.rowIs p19 24 4 (u64s (limb two))) x := ⟨hs, r19⟩
            obtain ⟨v157, Hv157⟩ : ∃ v, Hid (v = fcalc 27 (k % M) (a % M) (z % M)) := ⟨_, rfl⟩
            obtain ⟨v161, Hv161⟩ : ∃ v, Hid (v = fcalc 2 (a % M) (two % M) (z % M)) := ⟨_, rfl⟩
            have E162 : eqw v157 v161 = true := k162 hk HTWO.out Hv157.out Hv161.out
            obtain ⟨v168, Hv168⟩ : ∃ v, Hid (v = fcalc 28 (k % M) (a % M) (z % M)) := ⟨_, rfl⟩
            obtain ⟨v172, Hv172⟩ : ∃ v, Hid (v = fcalc 4 (a % M) (two % M) (z % M)) := ⟨_, rfl⟩
            have E173 : eqw v168 v172 = true := k173 hk HTWO.out Hv168.out Hv172.out
            obtain ⟨v181, Hv181⟩ : ∃ v, Hid (v = fcalc 10 (a % M) ((k + 1) % M) (z % M)) := ⟨_, rfl⟩
            obtain ⟨v187, Hv187⟩ : ∃ v, Hid (v = fcalc 10 (a % M) (k % M) (z % M)) := ⟨_, rfl⟩
            obtain ⟨v189, Hv189⟩ : ∃ v, Hid (v = fcalc 2 (a % M) (v187 % M) (z % M)) := ⟨_, rfl⟩
            have E190 : eqw v181 v189 = true := k190 hk Hv181.out Hv187.out Hv189.out
            refine wp_region_table (by kernel_rfl) (fun x => RK w a b c z o p9 p10 x ∧ x.rowIs p19 24 4 (u64s (limb two))) [(153, .int .i64 (k : Int)), (154, wv k), (155, wv a), (156, wv z), (157, wv v157), (158, wv a), (159, wv two), (160, wv z), (161, wv v161), (162, .bool true), (163, .bool true), (164, .int .i64 (k : Int)), (165, wv k), (166, wv a), (167, wv z), (168, wv v168), (169, wv a), (170, wv two), (171, wv z), (172, wv v172), (173, .bool true), (174, .bool true), (175, .bool true), (176, wv a), (177, .int .i64 (k : Int)), (178, .int .i64 ((k + 1 : Nat) : Int)), (179, wv (k + 1)), (180, wv z), (181, wv v181), (182, wv a), (183, wv a), (184, .int .i64 (k : Int)), (185, wv k), (186, wv z), (187, wv v187), (188, wv z), (189, wv v189), (190, .bool true), (191, .bool true), (20, .bool true)] (by kernel_rfl) rfl (by kernel_rfl) (by kernel_rfl) ⟨hs.1.drew, hs.2⟩ [(18, .int .i64 (k : Int)), (4, .pointer (some ⟨w.heap.size, 0, none⟩)), (9, .pointer (some ⟨p9, 0, none⟩)), (19, .pointer (some ⟨p19, 0, none⟩))] (by intro p hp; simp only [List.mem_cons, List.not_mem_nil, or_false] at hp; rcases hp with rfl | rfl | rfl | rfl <;> rfl) (by kernel_rfl) [] (fun p hp => by cases hp) ?_ ?_
            · as_aux_lemma =>
              intro i o d v ho ht s x hs hb hb2 hdep
              have hi : i < 40 := (Array.getElem?_eq_some_iff.1 ho).1
              rcases j40 hi with rfl | rfl | rfl | rfl | rfl | rfl | rfl | rfl | rfl | rfl | rfl | rfl | rfl | rfl | rfl | rfl | rfl | rfl | rfl | rfl | rfl | rfl | rfl | rfl | rfl | rfl | rfl | rfl | rfl | rfl | rfl | rfl | rfl | rfl | rfl | rfl | rfl | rfl | rfl | rfl
              · obtain rfl := Option.some.inj (show some _ = some o from ho)
                obtain ⟨rfl, rfl⟩ := Prod.mk.inj (Option.some.inj (show some (_, _) = some (d, v) from ht))
                exact Or.inl ⟨want_none rfl, fun K hK => st_move 18 153 _ (hb _ (List.Mem.head _)) (hK x hs)⟩
              · obtain rfl := Option.some.inj (show some _ = some o from ho)
                obtain ⟨rfl, rfl⟩ := Prod.mk.inj (Option.some.inj (show some (_, _) = some (d, v) from ht))
                exact Or.inl ⟨want_none rfl, fun K hK => st_small 153 154 k (hdep ⟨0, .data⟩ (by simp) rfl _ _ rfl) (by omega) (fun x' hb' => hK x' ((⟨hs.1.call hb', row_below hs.2 hb'⟩)))⟩
              · obtain rfl := Option.some.inj (show some _ = some o from ho)
                obtain ⟨rfl, rfl⟩ := Prod.mk.inj (Option.some.inj (show some (_, _) = some (d, v) from ht))
                exact Or.inl ⟨want_none rfl, fun K hK => st_load 4 155 _ _ (hb _ (List.Mem.tail _ (List.Mem.head _))) hs.1.ra (hK x hs)⟩
              · obtain rfl := Option.some.inj (show some _ = some o from ho)
                obtain ⟨rfl, rfl⟩ := Prod.mk.inj (Option.some.inj (show some (_, _) = some (d, v) from ht))
                exact Or.inl ⟨want_none rfl, fun K hK => st_load 9 156 _ _ (hb _ (List.Mem.tail _ (List.Mem.tail _ (List.Mem.head _)))) hs.1.r9 (hK x hs)⟩
              · obtain rfl := Option.some.inj (show some _ = some o from ho)
                obtain ⟨rfl, rfl⟩ := Prod.mk.inj (Option.some.inj (show some (_, _) = some (d, v) from ht))
                exact Or.inl ⟨want_none rfl, fun K hK => st_calc 27 154 155 156 157 _ _ _ _ (by decide) (by decide) (hdep ⟨1, .data⟩ (by simp) rfl _ _ rfl) (hdep ⟨2, .data⟩ (by simp) rfl _ _ rfl) (hdep ⟨3, .data⟩ (by simp) rfl _ _ rfl) Hv157 (fun x' hb' => hK x' ((⟨hs.1.call hb', row_below hs.2 hb'⟩)))⟩
              · obtain rfl := Option.some.inj (show some _ = some o from ho)
                obtain ⟨rfl, rfl⟩ := Prod.mk.inj (Option.some.inj (show some (_, _) = some (d, v) from ht))
                exact Or.inl ⟨want_none rfl, fun K hK => st_load 4 158 _ _ (hb _ (List.Mem.tail _ (List.Mem.head _))) hs.1.ra (hK x hs)⟩
              · obtain rfl := Option.some.inj (show some _ = some o from ho)
                obtain ⟨rfl, rfl⟩ := Prod.mk.inj (Option.some.inj (show some (_, _) = some (d, v) from ht))
                exact Or.inl ⟨want_none rfl, fun K hK => st_load 19 159 _ _ (hb _ (List.Mem.tail _ (List.Mem.tail _ (List.Mem.tail _ (List.Mem.head _))))) hs.2 (hK x hs)⟩
              · obtain rfl := Option.some.inj (show some _ = some o from ho)
                obtain ⟨rfl, rfl⟩ := Prod.mk.inj (Option.some.inj (show some (_, _) = some (d, v) from ht))
                exact Or.inl ⟨want_none rfl, fun K hK => st_load 9 160 _ _ (hb _ (List.Mem.tail _ (List.Mem.tail _ (List.Mem.head _)))) hs.1.r9 (hK x hs)⟩
              · obtain rfl := Option.some.inj (show some _ = some o from ho)
                obtain ⟨rfl, rfl⟩ := Prod.mk.inj (Option.some.inj (show some (_, _) = some (d, v) from ht))
                exact Or.inl ⟨want_none rfl, fun K hK => st_calc 2 158 159 160 161 _ _ _ _ (by decide) (by decide) (hdep ⟨5, .data⟩ (by simp) rfl _ _ rfl) (hdep ⟨6, .data⟩ (by simp) rfl _ _ rfl) (hdep ⟨7, .data⟩ (by simp) rfl _ _ rfl) Hv161 (fun x' hb' => hK x' ((⟨hs.1.call hb', row_below hs.2 hb'⟩)))⟩
              · obtain rfl := Option.some.inj (show some _ = some o from ho)
                obtain ⟨rfl, rfl⟩ := Prod.mk.inj (Option.some.inj (show some (_, _) = some (d, v) from ht))
                exact Or.inl ⟨want_none rfl, fun K hK => st_eql 157 161 162 _ _ true (hdep ⟨4, .data⟩ (by simp) rfl _ _ rfl) (hdep ⟨8, .data⟩ (by simp) rfl _ _ rfl) E162 (hK x hs)⟩
              · obtain rfl := Option.some.inj (show some _ = some o from ho)
                obtain ⟨rfl, rfl⟩ := Prod.mk.inj (Option.some.inj (show some (_, _) = some (d, v) from ht))
                exact Or.inl ⟨want_none rfl, fun K hK => st_move 162 163 _ (hdep ⟨9, .data⟩ (by simp) rfl _ _ rfl) (hK x hs)⟩
              · obtain rfl := Option.some.inj (show some _ = some o from ho)
                obtain ⟨rfl, rfl⟩ := Prod.mk.inj (Option.some.inj (show some (_, _) = some (d, v) from ht))
                exact Or.inl ⟨want_some rfl rfl rfl (hdep ⟨10, .guard⟩ (by simp) rfl _ _ rfl), fun K hK => st_move 18 164 _ (hb _ (List.Mem.head _)) (hK x hs)⟩
              · obtain rfl := Option.some.inj (show some _ = some o from ho)
                obtain ⟨rfl, rfl⟩ := Prod.mk.inj (Option.some.inj (show some (_, _) = some (d, v) from ht))
                exact Or.inl ⟨want_some rfl rfl rfl (hdep ⟨10, .guard⟩ (by simp) rfl _ _ rfl), fun K hK => st_small 164 165 k (hdep ⟨11, .data⟩ (by simp) rfl _ _ rfl) (by omega) (fun x' hb' => hK x' ((⟨hs.1.call hb', row_below hs.2 hb'⟩)))⟩
              · obtain rfl := Option.some.inj (show some _ = some o from ho)
                obtain ⟨rfl, rfl⟩ := Prod.mk.inj (Option.some.inj (show some (_, _) = some (d, v) from ht))
                exact Or.inl ⟨want_some rfl rfl rfl (hdep ⟨10, .guard⟩ (by simp) rfl _ _ rfl), fun K hK => st_load 4 166 _ _ (hb _ (List.Mem.tail _ (List.Mem.head _))) hs.1.ra (hK x hs)⟩
              · obtain rfl := Option.some.inj (show some _ = some o from ho)
                obtain ⟨rfl, rfl⟩ := Prod.mk.inj (Option.some.inj (show some (_, _) = some (d, v) from ht))
                exact Or.inl ⟨want_some rfl rfl rfl (hdep ⟨10, .guard⟩ (by simp) rfl _ _ rfl), fun K hK => st_load 9 167 _ _ (hb _ (List.Mem.tail _ (List.Mem.tail _ (List.Mem.head _)))) hs.1.r9 (hK x hs)⟩
              · obtain rfl := Option.some.inj (show some _ = some o from ho)
                obtain ⟨rfl, rfl⟩ := Prod.mk.inj (Option.some.inj (show some (_, _) = some (d, v) from ht))
                exact Or.inl ⟨want_some rfl rfl rfl (hdep ⟨10, .guard⟩ (by simp) rfl _ _ rfl), fun K hK => st_calc 28 165 166 167 168 _ _ _ _ (by decide) (by decide) (hdep ⟨12, .data⟩ (by simp) rfl _ _ rfl) (hdep ⟨13, .data⟩ (by simp) rfl _ _ rfl) (hdep ⟨14, .data⟩ (by simp) rfl _ _ rfl) Hv168 (fun x' hb' => hK x' ((⟨hs.1.call hb', row_below hs.2 hb'⟩)))⟩
              · obtain rfl := Option.some.inj (show some _ = some o from ho)
                obtain ⟨rfl, rfl⟩ := Prod.mk.inj (Option.some.inj (show some (_, _) = some (d, v) from ht))
                exact Or.inl ⟨want_some rfl rfl rfl (hdep ⟨10, .guard⟩ (by simp) rfl _ _ rfl), fun K hK => st_load 4 169 _ _ (hb _ (List.Mem.tail _ (List.Mem.head _))) hs.1.ra (hK x hs)⟩
              · obtain rfl := Option.some.inj (show some _ = some o from ho)
                obtain ⟨rfl, rfl⟩ := Prod.mk.inj (Option.some.inj (show some (_, _) = some (d, v) from ht))
                exact Or.inl ⟨want_some rfl rfl rfl (hdep ⟨10, .guard⟩ (by simp) rfl _ _ rfl), fun K hK => st_load 19 170 _ _ (hb _ (List.Mem.tail _ (List.Mem.tail _ (List.Mem.tail _ (List.Mem.head _))))) hs.2 (hK x hs)⟩
              · obtain rfl := Option.some.inj (show some _ = some o from ho)
                obtain ⟨rfl, rfl⟩ := Prod.mk.inj (Option.some.inj (show some (_, _) = some (d, v) from ht))
                exact Or.inl ⟨want_some rfl rfl rfl (hdep ⟨10, .guard⟩ (by simp) rfl _ _ rfl), fun K hK => st_load 9 171 _ _ (hb _ (List.Mem.tail _ (List.Mem.tail _ (List.Mem.head _)))) hs.1.r9 (hK x hs)⟩
              · obtain rfl := Option.some.inj (show some _ = some o from ho)
                obtain ⟨rfl, rfl⟩ := Prod.mk.inj (Option.some.inj (show some (_, _) = some (d, v) from ht))
                exact Or.inl ⟨want_some rfl rfl rfl (hdep ⟨10, .guard⟩ (by simp) rfl _ _ rfl), fun K hK => st_calc 4 169 170 171 172 _ _ _ _ (by decide) (by decide) (hdep ⟨16, .data⟩ (by simp) rfl _ _ rfl) (hdep ⟨17, .data⟩ (by simp) rfl _ _ rfl) (hdep ⟨18, .data⟩ (by simp) rfl _ _ rfl) Hv172 (fun x' hb' => hK x' ((⟨hs.1.call hb', row_below hs.2 hb'⟩)))⟩
              · obtain rfl := Option.some.inj (show some _ = some o from ho)
                obtain ⟨rfl, rfl⟩ := Prod.mk.inj (Option.some.inj (show some (_, _) = some (d, v) from ht))
                exact Or.inl ⟨want_some rfl rfl rfl (hdep ⟨10, .guard⟩ (by simp) rfl _ _ rfl), fun K hK => st_eql 168 172 173 _ _ true (hdep ⟨15, .data⟩ (by simp) rfl _ _ rfl) (hdep ⟨19, .data⟩ (by simp) rfl _ _ rfl) E173 (hK x hs)⟩
              · obtain rfl := Option.some.inj (show some _ = some o from ho)
                obtain ⟨rfl, rfl⟩ := Prod.mk.inj (Option.some.inj (show some (_, _) = some (d, v) from ht))
                exact Or.inl ⟨want_none rfl, fun K hK => st_pick 163 173 174 (hdep ⟨10, .data⟩ (by simp) rfl _ _ rfl) (hdep ⟨20, .data⟩ (by simp) rfl _ _ rfl) (hK x hs)⟩
              · obtain rfl := Option.some.inj (show some _ = some o from ho)
                obtain ⟨rfl, rfl⟩ := Prod.mk.inj (Option.some.inj (show some (_, _) = some (d, v) from ht))
                exact Or.inl ⟨want_none rfl, fun K hK => st_move 174 175 _ (hdep ⟨21, .data⟩ (by simp) rfl _ _ rfl) (hK x hs)⟩
              · obtain rfl := Option.some.inj (show some _ = some o from ho)
                obtain ⟨rfl, rfl⟩ := Prod.mk.inj (Option.some.inj (show some (_, _) = some (d, v) from ht))
                exact Or.inl ⟨want_some rfl rfl rfl (hdep ⟨22, .guard⟩ (by simp) rfl _ _ rfl), fun K hK => st_load 4 176 _ _ (hb _ (List.Mem.tail _ (List.Mem.head _))) hs.1.ra (hK x hs)⟩
              · obtain rfl := Option.some.inj (show some _ = some o from ho)
                obtain ⟨rfl, rfl⟩ := Prod.mk.inj (Option.some.inj (show some (_, _) = some (d, v) from ht))
                exact Or.inl ⟨want_some rfl rfl rfl (hdep ⟨22, .guard⟩ (by simp) rfl _ _ rfl), fun K hK => st_move 18 177 _ (hb _ (List.Mem.head _)) (hK x hs)⟩
              · obtain rfl := Option.some.inj (show some _ = some o from ho)
                obtain ⟨rfl, rfl⟩ := Prod.mk.inj (Option.some.inj (show some (_, _) = some (d, v) from ht))
                exact Or.inl ⟨want_some rfl rfl rfl (hdep ⟨22, .guard⟩ (by simp) rfl _ _ rfl), fun K hK => st_add1 177 178 k 1 hk (by decide) (hdep ⟨24, .data⟩ (by simp) rfl _ _ rfl) (hK x hs)⟩
              · obtain rfl := Option.some.inj (show some _ = some o from ho)
                obtain ⟨rfl, rfl⟩ := Prod.mk.inj (Option.some.inj (show some (_, _) = some (d, v) from ht))
                exact Or.inl ⟨want_some rfl rfl rfl (hdep ⟨22, .guard⟩ (by simp) rfl _ _ rfl), fun K hK => st_small 178 179 (k + 1) (hdep ⟨25, .data⟩ (by simp) rfl _ _ rfl) (by omega) (fun x' hb' => hK x' ((⟨hs.1.call hb', row_below hs.2 hb'⟩)))⟩
              · obtain rfl := Option.some.inj (show some _ = some o from ho)
                obtain ⟨rfl, rfl⟩ := Prod.mk.inj (Option.some.inj (show some (_, _) = some (d, v) from ht))
                exact Or.inl ⟨want_some rfl rfl rfl (hdep ⟨22, .guard⟩ (by simp) rfl _ _ rfl), fun K hK => st_load 9 180 _ _ (hb _ (List.Mem.tail _ (List.Mem.tail _ (List.Mem.head _)))) hs.1.r9 (hK x hs)⟩
              · obtain rfl := Option.some.inj (show some _ = some o from ho)
                obtain ⟨rfl, rfl⟩ := Prod.mk.inj (Option.some.inj (show some (_, _) = some (d, v) from ht))
                exact Or.inl ⟨want_some rfl rfl rfl (hdep ⟨22, .guard⟩ (by simp) rfl _ _ rfl), fun K hK => st_calc 10 176 179 180 181 _ _ _ _ (by decide) (by decide) (hdep ⟨23, .data⟩ (by simp) rfl _ _ rfl) (hdep ⟨26, .data⟩ (by simp) rfl _ _ rfl) (hdep ⟨27, .data⟩ (by simp) rfl _ _ rfl) Hv181 (fun x' hb' => hK x' ((⟨hs.1.call hb', row_below hs.2 hb'⟩)))⟩
              · obtain rfl := Option.some.inj (show some _ = some o from ho)
                obtain ⟨rfl, rfl⟩ := Prod.mk.inj (Option.some.inj (show some (_, _) = some (d, v) from ht))
                exact Or.inl ⟨want_some rfl rfl rfl (hdep ⟨22, .guard⟩ (by simp) rfl _ _ rfl), fun K hK => st_load 4 182 _ _ (hb _ (List.Mem.tail _ (List.Mem.head _))) hs.1.ra (hK x hs)⟩
              · obtain rfl := Option.some.inj (show some _ = some o from ho)
                obtain ⟨rfl, rfl⟩ := Prod.mk.inj (Option.some.inj (show some (_, _) = some (d, v) from ht))
                exact Or.inl ⟨want_some rfl rfl rfl (hdep ⟨22, .guard⟩ (by simp) rfl _ _ rfl), fun K hK => st_load 4 183 _ _ (hb _ (List.Mem.tail _ (List.Mem.head _))) hs.1.ra (hK x hs)⟩
              · obtain rfl := Option.some.inj (show some _ = some o from ho)
                obtain ⟨rfl, rfl⟩ := Prod.mk.inj (Option.some.inj (show some (_, _) = some (d, v) from ht))
                exact Or.inl ⟨want_some rfl rfl rfl (hdep ⟨22, .guard⟩ (by simp) rfl _ _ rfl), fun K hK => st_move 18 184 _ (hb _ (List.Mem.head _)) (hK x hs)⟩
              · obtain rfl := Option.some.inj (show some _ = some o from ho)
                obtain ⟨rfl, rfl⟩ := Prod.mk.inj (Option.some.inj (show some (_, _) = some (d, v) from ht))
                exact Or.inl ⟨want_some rfl rfl rfl (hdep ⟨22, .guard⟩ (by simp) rfl _ _ rfl), fun K hK => st_small 184 185 k (hdep ⟨31, .data⟩ (by simp) rfl _ _ rfl) (by omega) (fun x' hb' => hK x' ((⟨hs.1.call hb', row_below hs.2 hb'⟩)))⟩
              · obtain rfl := Option.some.inj (show some _ = some o from ho)
                obtain ⟨rfl, rfl⟩ := Prod.mk.inj (Option.some.inj (show some (_, _) = some (d, v) from ht))
                exact Or.inl ⟨want_some rfl rfl rfl (hdep ⟨22, .guard⟩ (by simp) rfl _ _ rfl), fun K hK => st_load 9 186 _ _ (hb _ (List.Mem.tail _ (List.Mem.tail _ (List.Mem.head _)))) hs.1.r9 (hK x hs)⟩
              · obtain rfl := Option.some.inj (show some _ = some o from ho)
                obtain ⟨rfl, rfl⟩ := Prod.mk.inj (Option.some.inj (show some (_, _) = some (d, v) from ht))
                exact Or.inl ⟨want_some rfl rfl rfl (hdep ⟨22, .guard⟩ (by simp) rfl _ _ rfl), fun K hK => st_calc 10 183 185 186 187 _ _ _ _ (by decide) (by decide) (hdep ⟨30, .data⟩ (by simp) rfl _ _ rfl) (hdep ⟨32, .data⟩ (by simp) rfl _ _ rfl) (hdep ⟨33, .data⟩ (by simp) rfl _ _ rfl) Hv187 (fun x' hb' => hK x' ((⟨hs.1.call hb', row_below hs.2 hb'⟩)))⟩
              · obtain rfl := Option.some.inj (show some _ = some o from ho)
                obtain ⟨rfl, rfl⟩ := Prod.mk.inj (Option.some.inj (show some (_, _) = some (d, v) from ht))
                exact Or.inl ⟨want_some rfl rfl rfl (hdep ⟨22, .guard⟩ (by simp) rfl _ _ rfl), fun K hK => st_load 9 188 _ _ (hb _ (List.Mem.tail _ (List.Mem.tail _ (List.Mem.head _)))) hs.1.r9 (hK x hs)⟩
              · obtain rfl := Option.some.inj (show some _ = some o from ho)
                obtain ⟨rfl, rfl⟩ := Prod.mk.inj (Option.some.inj (show some (_, _) = some (d, v) from ht))
                exact Or.inl ⟨want_some rfl rfl rfl (hdep ⟨22, .guard⟩ (by simp) rfl _ _ rfl), fun K hK => st_calc 2 182 187 188 189 _ _ _ _ (by decide) (by decide) (hdep ⟨29, .data⟩ (by simp) rfl _ _ rfl) (hdep ⟨34, .data⟩ (by simp) rfl _ _ rfl) (hdep ⟨35, .data⟩ (by simp) rfl _ _ rfl) Hv189 (fun x' hb' => hK x' ((⟨hs.1.call hb', row_below hs.2 hb'⟩)))⟩
              · obtain rfl := Option.some.inj (show some _ = some o from ho)
                obtain ⟨rfl, rfl⟩ := Prod.mk.inj (Option.some.inj (show some (_, _) = some (d, v) from ht))
                exact Or.inl ⟨want_some rfl rfl rfl (hdep ⟨22, .guard⟩ (by simp) rfl _ _ rfl), fun K hK => st_eql 181 189 190 _ _ true (hdep ⟨28, .data⟩ (by simp) rfl _ _ rfl) (hdep ⟨36, .data⟩ (by simp) rfl _ _ rfl) E190 (hK x hs)⟩
              · obtain rfl := Option.some.inj (show some _ = some o from ho)
                obtain ⟨rfl, rfl⟩ := Prod.mk.inj (Option.some.inj (show some (_, _) = some (d, v) from ht))
                exact Or.inl ⟨want_none rfl, fun K hK => st_pick 175 190 191 (hdep ⟨22, .data⟩ (by simp) rfl _ _ rfl) (hdep ⟨37, .data⟩ (by simp) rfl _ _ rfl) (hK x hs)⟩
              · obtain rfl := Option.some.inj (show some _ = some o from ho)
                obtain ⟨rfl, rfl⟩ := Prod.mk.inj (Option.some.inj (show some (_, _) = some (d, v) from ht))
                exact Or.inl ⟨want_none rfl, fun K hK => st_assign 191 20 _ (hdep ⟨38, .data⟩ (by simp) rfl _ _ rfl) (hK x hs)⟩
            · intro x hs
              as_aux_lemma =>
              simp only [fill, List.foldl, Act.put, List.setIfInBounds_toArray, List.set_cons_zero, List.set_cons_succ]
              go_wp2
              obtain ⟨v195, Hv195⟩ : ∃ v, Hid (v = fcalc 22 (a % M) (b % M) (z % M)) := ⟨_, rfl⟩
              obtain ⟨v199, Hv199⟩ : ∃ v, Hid (v = fcalc 23 (a % M) (b % M) (z % M)) := ⟨_, rfl⟩
              obtain ⟨v201, Hv201⟩ : ∃ v, Hid (v = fcalc 24 (v195 % M) (v199 % M) (z % M)) := ⟨_, rfl⟩
              obtain ⟨v205, Hv205⟩ : ∃ v, Hid (v = fcalc 24 (a % M) (b % M) (z % M)) := ⟨_, rfl⟩
              have E206 : eqw v201 v205 = true := k206  Hv195.out Hv199.out Hv201.out Hv205.out
              obtain ⟨v211, Hv211⟩ : ∃ v, Hid (v = fcalc 20 (a % M) (b % M) (z % M)) := ⟨_, rfl⟩
              obtain ⟨v214, Hv214⟩ : ∃ v, Hid (v = fcalc 21 (v211 % M) (z % M) (z % M)) := ⟨_, rfl⟩
              obtain ⟨v218, Hv218⟩ : ∃ v, Hid (v = fcalc 20 (a % M) (b % M) (z % M)) := ⟨_, rfl⟩
              obtain ⟨v225, Hv225⟩ : ∃ v, Hid (v = fcalc 10 (z % M) (z % M) (z % M)) := ⟨_, rfl⟩
              have E227 : eqw v225 o = true := k227 HZ.out HO.out Hv225.out
              refine wp_region_table (by kernel_rfl) (fun x => RK w a b c z o p9 p10 x ∧ x.rowIs p19 24 4 (u64s (limb two))) [(192, wv a), (193, wv b), (194, wv z), (195, wv v195), (196, wv a), (197, wv b), (198, wv z), (199, wv v199), (200, wv z), (201, wv v201), (202, wv a), (203, wv b), (204, wv z), (205, wv v205), (206, .bool true), (207, .bool true), (208, wv a), (209, wv b), (210, wv z), (211, wv v211), (212, wv z), (213, wv z), (214, wv v214), (215, wv a), (216, wv b), (217, wv z), (218, wv v218), (219, .bool true), (220, .bool true), (221, .bool true), (222, wv z), (223, wv z), (224, wv z), (225, wv v225), (226, wv o), (227, .bool true), (228, .bool true), (21, .bool true)] (by kernel_rfl) rfl (by kernel_rfl) (by kernel_rfl) ⟨hs.1.drew, hs.2⟩ [(4, .pointer (some ⟨w.heap.size, 0, none⟩)), (5, .pointer (some ⟨w.heap.size + 1, 0, none⟩)), (9, .pointer (some ⟨p9, 0, none⟩)), (10, .pointer (some ⟨p10, 0, none⟩))] (by intro p hp; simp only [List.mem_cons, List.not_mem_nil, or_false] at hp; rcases hp with rfl | rfl | rfl | rfl <;> rfl) (by kernel_rfl) [] (fun p hp => by cases hp) ?_ ?_
              · as_aux_lemma =>
                intro i o d v ho ht s x hs hb hb2 hdep
                have hi : i < 38 := (Array.getElem?_eq_some_iff.1 ho).1
                rcases j38 hi with rfl | rfl | rfl | rfl | rfl | rfl | rfl | rfl | rfl | rfl | rfl | rfl | rfl | rfl | rfl | rfl | rfl | rfl | rfl | rfl | rfl | rfl | rfl | rfl | rfl | rfl | rfl | rfl | rfl | rfl | rfl | rfl | rfl | rfl | rfl | rfl | rfl | rfl
                · obtain rfl := Option.some.inj (show some _ = some o from ho)
                  obtain ⟨rfl, rfl⟩ := Prod.mk.inj (Option.some.inj (show some (_, _) = some (d, v) from ht))
                  exact Or.inl ⟨want_none rfl, fun K hK => st_load 4 192 _ _ (hb _ (List.Mem.head _)) hs.1.ra (hK x hs)⟩
                · obtain rfl := Option.some.inj (show some _ = some o from ho)
                  obtain ⟨rfl, rfl⟩ := Prod.mk.inj (Option.some.inj (show some (_, _) = some (d, v) from ht))
                  exact Or.inl ⟨want_none rfl, fun K hK => st_load 5 193 _ _ (hb _ (List.Mem.tail _ (List.Mem.head _))) hs.1.rb (hK x hs)⟩
                · obtain rfl := Option.some.inj (show some _ = some o from ho)
                  obtain ⟨rfl, rfl⟩ := Prod.mk.inj (Option.some.inj (show some (_, _) = some (d, v) from ht))
                  exact Or.inl ⟨want_none rfl, fun K hK => st_load 9 194 _ _ (hb _ (List.Mem.tail _ (List.Mem.tail _ (List.Mem.head _)))) hs.1.r9 (hK x hs)⟩
                · obtain rfl := Option.some.inj (show some _ = some o from ho)
                  obtain ⟨rfl, rfl⟩ := Prod.mk.inj (Option.some.inj (show some (_, _) = some (d, v) from ht))
                  exact Or.inl ⟨want_none rfl, fun K hK => st_calc 22 192 193 194 195 _ _ _ _ (by decide) (by decide) (hdep ⟨0, .data⟩ (by simp) rfl _ _ rfl) (hdep ⟨1, .data⟩ (by simp) rfl _ _ rfl) (hdep ⟨2, .data⟩ (by simp) rfl _ _ rfl) Hv195 (fun x' hb' => hK x' ((⟨hs.1.call hb', row_below hs.2 hb'⟩)))⟩
                · obtain rfl := Option.some.inj (show some _ = some o from ho)
                  obtain ⟨rfl, rfl⟩ := Prod.mk.inj (Option.some.inj (show some (_, _) = some (d, v) from ht))
                  exact Or.inl ⟨want_none rfl, fun K hK => st_load 4 196 _ _ (hb _ (List.Mem.head _)) hs.1.ra (hK x hs)⟩
                · obtain rfl := Option.some.inj (show some _ = some o from ho)
                  obtain ⟨rfl, rfl⟩ := Prod.mk.inj (Option.some.inj (show some (_, _) = some (d, v) from ht))
                  exact Or.inl ⟨want_none rfl, fun K hK => st_load 5 197 _ _ (hb _ (List.Mem.tail _ (List.Mem.head _))) hs.1.rb (hK x hs)⟩
                · obtain rfl := Option.some.inj (show some _ = some o from ho)
                  obtain ⟨rfl, rfl⟩ := Prod.mk.inj (Option.some.inj (show some (_, _) = some (d, v) from ht))
                  exact Or.inl ⟨want_none rfl, fun K hK => st_load 9 198 _ _ (hb _ (List.Mem.tail _ (List.Mem.tail _ (List.Mem.head _)))) hs.1.r9 (hK x hs)⟩
                · obtain rfl := Option.some.inj (show some _ = some o from ho)
                  obtain ⟨rfl, rfl⟩ := Prod.mk.inj (Option.some.inj (show some (_, _) = some (d, v) from ht))
                  exact Or.inl ⟨want_none rfl, fun K hK => st_calc 23 196 197 198 199 _ _ _ _ (by decide) (by decide) (hdep ⟨4, .data⟩ (by simp) rfl _ _ rfl) (hdep ⟨5, .data⟩ (by simp) rfl _ _ rfl) (hdep ⟨6, .data⟩ (by simp) rfl _ _ rfl) Hv199 (fun x' hb' => hK x' ((⟨hs.1.call hb', row_below hs.2 hb'⟩)))⟩
                · obtain rfl := Option.some.inj (show some _ = some o from ho)
                  obtain ⟨rfl, rfl⟩ := Prod.mk.inj (Option.some.inj (show some (_, _) = some (d, v) from ht))
                  exact Or.inl ⟨want_none rfl, fun K hK => st_load 9 200 _ _ (hb _ (List.Mem.tail _ (List.Mem.tail _ (List.Mem.head _)))) hs.1.r9 (hK x hs)⟩
                · obtain rfl := Option.some.inj (show some _ = some o from ho)
                  obtain ⟨rfl, rfl⟩ := Prod.mk.inj (Option.some.inj (show some (_, _) = some (d, v) from ht))
                  exact Or.inl ⟨want_none rfl, fun K hK => st_calc 24 195 199 200 201 _ _ _ _ (by decide) (by decide) (hdep ⟨3, .data⟩ (by simp) rfl _ _ rfl) (hdep ⟨7, .data⟩ (by simp) rfl _ _ rfl) (hdep ⟨8, .data⟩ (by simp) rfl _ _ rfl) Hv201 (fun x' hb' => hK x' ((⟨hs.1.call hb', row_below hs.2 hb'⟩)))⟩
                · obtain rfl := Option.some.inj (show some _ = some o from ho)
                  obtain ⟨rfl, rfl⟩ := Prod.mk.inj (Option.some.inj (show some (_, _) = some (d, v) from ht))
                  exact Or.inl ⟨want_none rfl, fun K hK => st_load 4 202 _ _ (hb _ (List.Mem.head _)) hs.1.ra (hK x hs)⟩
                · obtain rfl := Option.some.inj (show some _ = some o from ho)
                  obtain ⟨rfl, rfl⟩ := Prod.mk.inj (Option.some.inj (show some (_, _) = some (d, v) from ht))
                  exact Or.inl ⟨want_none rfl, fun K hK => st_load 5 203 _ _ (hb _ (List.Mem.tail _ (List.Mem.head _))) hs.1.rb (hK x hs)⟩
                · obtain rfl := Option.some.inj (show some _ = some o from ho)
                  obtain ⟨rfl, rfl⟩ := Prod.mk.inj (Option.some.inj (show some (_, _) = some (d, v) from ht))
                  exact Or.inl ⟨want_none rfl, fun K hK => st_load 9 204 _ _ (hb _ (List.Mem.tail _ (List.Mem.tail _ (List.Mem.head _)))) hs.1.r9 (hK x hs)⟩
                · obtain rfl := Option.some.inj (show some _ = some o from ho)
                  obtain ⟨rfl, rfl⟩ := Prod.mk.inj (Option.some.inj (show some (_, _) = some (d, v) from ht))
                  exact Or.inl ⟨want_none rfl, fun K hK => st_calc 24 202 203 204 205 _ _ _ _ (by decide) (by decide) (hdep ⟨10, .data⟩ (by simp) rfl _ _ rfl) (hdep ⟨11, .data⟩ (by simp) rfl _ _ rfl) (hdep ⟨12, .data⟩ (by simp) rfl _ _ rfl) Hv205 (fun x' hb' => hK x' ((⟨hs.1.call hb', row_below hs.2 hb'⟩)))⟩
                · obtain rfl := Option.some.inj (show some _ = some o from ho)
                  obtain ⟨rfl, rfl⟩ := Prod.mk.inj (Option.some.inj (show some (_, _) = some (d, v) from ht))
                  exact Or.inl ⟨want_none rfl, fun K hK => st_eql 201 205 206 _ _ true (hdep ⟨9, .data⟩ (by simp) rfl _ _ rfl) (hdep ⟨13, .data⟩ (by simp) rfl _ _ rfl) E206 (hK x hs)⟩
                · obtain rfl := Option.some.inj (show some _ = some o from ho)
                  obtain ⟨rfl, rfl⟩ := Prod.mk.inj (Option.some.inj (show some (_, _) = some (d, v) from ht))
                  exact Or.inl ⟨want_none rfl, fun K hK => st_move 206 207 _ (hdep ⟨14, .data⟩ (by simp) rfl _ _ rfl) (hK x hs)⟩
                · obtain rfl := Option.some.inj (show some _ = some o from ho)
                  obtain ⟨rfl, rfl⟩ := Prod.mk.inj (Option.some.inj (show some (_, _) = some (d, v) from ht))
                  exact Or.inl ⟨want_some rfl rfl rfl (hdep ⟨15, .guard⟩ (by simp) rfl _ _ rfl), fun K hK => st_load 4 208 _ _ (hb _ (List.Mem.head _)) hs.1.ra (hK x hs)⟩
                · obtain rfl := Option.some.inj (show some _ = some o from ho)
                  obtain ⟨rfl, rfl⟩ := Prod.mk.inj (Option.some.inj (show some (_, _) = some (d, v) from ht))
                  exact Or.inl ⟨want_some rfl rfl rfl (hdep ⟨15, .guard⟩ (by simp) rfl _ _ rfl), fun K hK => st_load 5 209 _ _ (hb _ (List.Mem.tail _ (List.Mem.head _))) hs.1.rb (hK x hs)⟩
                · obtain rfl := Option.some.inj (show some _ = some o from ho)
                  obtain ⟨rfl, rfl⟩ := Prod.mk.inj (Option.some.inj (show some (_, _) = some (d, v) from ht))
                  exact Or.inl ⟨want_some rfl rfl rfl (hdep ⟨15, .guard⟩ (by simp) rfl _ _ rfl), fun K hK => st_load 9 210 _ _ (hb _ (List.Mem.tail _ (List.Mem.tail _ (List.Mem.head _)))) hs.1.r9 (hK x hs)⟩
                · obtain rfl := Option.some.inj (show some _ = some o from ho)
                  obtain ⟨rfl, rfl⟩ := Prod.mk.inj (Option.some.inj (show some (_, _) = some (d, v) from ht))
                  exact Or.inl ⟨want_some rfl rfl rfl (hdep ⟨15, .guard⟩ (by simp) rfl _ _ rfl), fun K hK => st_calc 20 208 209 210 211 _ _ _ _ (by decide) (by decide) (hdep ⟨16, .data⟩ (by simp) rfl _ _ rfl) (hdep ⟨17, .data⟩ (by simp) rfl _ _ rfl) (hdep ⟨18, .data⟩ (by simp) rfl _ _ rfl) Hv211 (fun x' hb' => hK x' ((⟨hs.1.call hb', row_below hs.2 hb'⟩)))⟩
                · obtain rfl := Option.some.inj (show some _ = some o from ho)
                  obtain ⟨rfl, rfl⟩ := Prod.mk.inj (Option.some.inj (show some (_, _) = some (d, v) from ht))
                  exact Or.inl ⟨want_some rfl rfl rfl (hdep ⟨15, .guard⟩ (by simp) rfl _ _ rfl), fun K hK => st_load 9 212 _ _ (hb _ (List.Mem.tail _ (List.Mem.tail _ (List.Mem.head _)))) hs.1.r9 (hK x hs)⟩
                · obtain rfl := Option.some.inj (show some _ = some o from ho)
                  obtain ⟨rfl, rfl⟩ := Prod.mk.inj (Option.some.inj (show some (_, _) = some (d, v) from ht))
                  exact Or.inl ⟨want_some rfl rfl rfl (hdep ⟨15, .guard⟩ (by simp) rfl _ _ rfl), fun K hK => st_load 9 213 _ _ (hb _ (List.Mem.tail _ (List.Mem.tail _ (List.Mem.head _)))) hs.1.r9 (hK x hs)⟩
                · obtain rfl := Option.some.inj (show some _ = some o from ho)
                  obtain ⟨rfl, rfl⟩ := Prod.mk.inj (Option.some.inj (show some (_, _) = some (d, v) from ht))
                  exact Or.inl ⟨want_some rfl rfl rfl (hdep ⟨15, .guard⟩ (by simp) rfl _ _ rfl), fun K hK => st_calc 21 211 212 213 214 _ _ _ _ (by decide) (by decide) (hdep ⟨19, .data⟩ (by simp) rfl _ _ rfl) (hdep ⟨20, .data⟩ (by simp) rfl _ _ rfl) (hdep ⟨21, .data⟩ (by simp) rfl _ _ rfl) Hv214 (fun x' hb' => hK x' ((⟨hs.1.call hb', row_below hs.2 hb'⟩)))⟩
                · obtain rfl := Option.some.inj (show some _ = some o from ho)
                  obtain ⟨rfl, rfl⟩ := Prod.mk.inj (Option.some.inj (show some (_, _) = some (d, v) from ht))
                  exact Or.inl ⟨want_some rfl rfl rfl (hdep ⟨15, .guard⟩ (by simp) rfl _ _ rfl), fun K hK => st_load 4 215 _ _ (hb _ (List.Mem.head _)) hs.1.ra (hK x hs)⟩
                · obtain rfl := Option.some.inj (show some _ = some o from ho)
                  obtain ⟨rfl, rfl⟩ := Prod.mk.inj (Option.some.inj (show some (_, _) = some (d, v) from ht))
                  exact Or.inl ⟨want_some rfl rfl rfl (hdep ⟨15, .guard⟩ (by simp) rfl _ _ rfl), fun K hK => st_load 5 216 _ _ (hb _ (List.Mem.tail _ (List.Mem.head _))) hs.1.rb (hK x hs)⟩
                · obtain rfl := Option.some.inj (show some _ = some o from ho)
                  obtain ⟨rfl, rfl⟩ := Prod.mk.inj (Option.some.inj (show some (_, _) = some (d, v) from ht))
                  exact Or.inl ⟨want_some rfl rfl rfl (hdep ⟨15, .guard⟩ (by simp) rfl _ _ rfl), fun K hK => st_load 9 217 _ _ (hb _ (List.Mem.tail _ (List.Mem.tail _ (List.Mem.head _)))) hs.1.r9 (hK x hs)⟩
                · obtain rfl := Option.some.inj (show some _ = some o from ho)
                  obtain ⟨rfl, rfl⟩ := Prod.mk.inj (Option.some.inj (show some (_, _) = some (d, v) from ht))
                  exact Or.inl ⟨want_some rfl rfl rfl (hdep ⟨15, .guard⟩ (by simp) rfl _ _ rfl), fun K hK => st_calc 20 215 216 217 218 _ _ _ _ (by decide) (by decide) (hdep ⟨23, .data⟩ (by simp) rfl _ _ rfl) (hdep ⟨24, .data⟩ (by simp) rfl _ _ rfl) (hdep ⟨25, .data⟩ (by simp) rfl _ _ rfl) Hv218 (fun x' hb' => hK x' ((⟨hs.1.call hb', row_below hs.2 hb'⟩)))⟩
                · obtain rfl := Option.some.inj (show some _ = some o from ho)
                  obtain ⟨rfl, rfl⟩ := Prod.mk.inj (Option.some.inj (show some (_, _) = some (d, v) from ht))
                  exact Or.inl ⟨want_some rfl rfl rfl (hdep ⟨15, .guard⟩ (by simp) rfl _ _ rfl), fun K hK => st_neq 214 218 219 _ _ (hdep ⟨22, .data⟩ (by simp) rfl _ _ rfl) (hdep ⟨26, .data⟩ (by simp) rfl _ _ rfl) (k219 Hv211.out Hv214.out Hv218.out) (hK x hs)⟩
                · obtain rfl := Option.some.inj (show some _ = some o from ho)
                  obtain ⟨rfl, rfl⟩ := Prod.mk.inj (Option.some.inj (show some (_, _) = some (d, v) from ht))
                  exact Or.inl ⟨want_none rfl, fun K hK => st_pick 207 219 220 (hdep ⟨15, .data⟩ (by simp) rfl _ _ rfl) (hdep ⟨27, .data⟩ (by simp) rfl _ _ rfl) (hK x hs)⟩
                · obtain rfl := Option.some.inj (show some _ = some o from ho)
                  obtain ⟨rfl, rfl⟩ := Prod.mk.inj (Option.some.inj (show some (_, _) = some (d, v) from ht))
                  exact Or.inl ⟨want_none rfl, fun K hK => st_move 220 221 _ (hdep ⟨28, .data⟩ (by simp) rfl _ _ rfl) (hK x hs)⟩
                · obtain rfl := Option.some.inj (show some _ = some o from ho)
                  obtain ⟨rfl, rfl⟩ := Prod.mk.inj (Option.some.inj (show some (_, _) = some (d, v) from ht))
                  exact Or.inl ⟨want_some rfl rfl rfl (hdep ⟨29, .guard⟩ (by simp) rfl _ _ rfl), fun K hK => st_load 9 222 _ _ (hb _ (List.Mem.tail _ (List.Mem.tail _ (List.Mem.head _)))) hs.1.r9 (hK x hs)⟩
                · obtain rfl := Option.some.inj (show some _ = some o from ho)
                  obtain ⟨rfl, rfl⟩ := Prod.mk.inj (Option.some.inj (show some (_, _) = some (d, v) from ht))
                  exact Or.inl ⟨want_some rfl rfl rfl (hdep ⟨29, .guard⟩ (by simp) rfl _ _ rfl), fun K hK => st_load 9 223 _ _ (hb _ (List.Mem.tail _ (List.Mem.tail _ (List.Mem.head _)))) hs.1.r9 (hK x hs)⟩
                · obtain rfl := Option.some.inj (show some _ = some o from ho)
                  obtain ⟨rfl, rfl⟩ := Prod.mk.inj (Option.some.inj (show some (_, _) = some (d, v) from ht))
                  exact Or.inl ⟨want_some rfl rfl rfl (hdep ⟨29, .guard⟩ (by simp) rfl _ _ rfl), fun K hK => st_load 9 224 _ _ (hb _ (List.Mem.tail _ (List.Mem.tail _ (List.Mem.head _)))) hs.1.r9 (hK x hs)⟩
                · obtain rfl := Option.some.inj (show some _ = some o from ho)
                  obtain ⟨rfl, rfl⟩ := Prod.mk.inj (Option.some.inj (show some (_, _) = some (d, v) from ht))
                  exact Or.inl ⟨want_some rfl rfl rfl (hdep ⟨29, .guard⟩ (by simp) rfl _ _ rfl), fun K hK => st_calc 10 222 223 224 225 _ _ _ _ (by decide) (by decide) (hdep ⟨30, .data⟩ (by simp) rfl _ _ rfl) (hdep ⟨31, .data⟩ (by simp) rfl _ _ rfl) (hdep ⟨32, .data⟩ (by simp) rfl _ _ rfl) Hv225 (fun x' hb' => hK x' ((⟨hs.1.call hb', row_below hs.2 hb'⟩)))⟩
                · obtain rfl := Option.some.inj (show some _ = some o from ho)
                  obtain ⟨rfl, rfl⟩ := Prod.mk.inj (Option.some.inj (show some (_, _) = some (d, v) from ht))
                  exact Or.inl ⟨want_some rfl rfl rfl (hdep ⟨29, .guard⟩ (by simp) rfl _ _ rfl), fun K hK => st_load 10 226 _ _ (hb _ (List.Mem.tail _ (List.Mem.tail _ (List.Mem.tail _ (List.Mem.head _))))) hs.1.r10 (hK x hs)⟩
                · obtain rfl := Option.some.inj (show some _ = some o from ho)
                  obtain ⟨rfl, rfl⟩ := Prod.mk.inj (Option.some.inj (show some (_, _) = some (d, v) from ht))
                  exact Or.inl ⟨want_some rfl rfl rfl (hdep ⟨29, .guard⟩ (by simp) rfl _ _ rfl), fun K hK => st_eql 225 226 227 _ _ true (hdep ⟨33, .data⟩ (by simp) rfl _ _ rfl) (hdep ⟨34, .data⟩ (by simp) rfl _ _ rfl) E227 (hK x hs)⟩
                · obtain rfl := Option.some.inj (show some _ = some o from ho)
                  obtain ⟨rfl, rfl⟩ := Prod.mk.inj (Option.some.inj (show some (_, _) = some (d, v) from ht))
                  exact Or.inl ⟨want_none rfl, fun K hK => st_pick 221 227 228 (hdep ⟨29, .data⟩ (by simp) rfl _ _ rfl) (hdep ⟨35, .data⟩ (by simp) rfl _ _ rfl) (hK x hs)⟩
                · obtain rfl := Option.some.inj (show some _ = some o from ho)
                  obtain ⟨rfl, rfl⟩ := Prod.mk.inj (Option.some.inj (show some (_, _) = some (d, v) from ht))
                  exact Or.inl ⟨want_none rfl, fun K hK => st_assign 228 21 _ (hdep ⟨36, .data⟩ (by simp) rfl _ _ rfl) (hK x hs)⟩
              · intro x hs
                as_aux_lemma =>
                simp only [fill, List.foldl, Act.put, List.setIfInBounds_toArray, List.set_cons_zero, List.set_cons_succ]
                go_wp2_with fail
                refine (ksmall_any k (by omega) _).mono ?_
                rintro e w8 ⟨m, HM, rfl, hb⟩
                replace hs := hs.1.call hb
                clear hb
                go_upto_region 19 with fail
                replace hs : (fun x => RK w a b c z o p9 p10 x ∧ x.rowIs w8.heap.size 24 4 (u64s (limb m))) (w8.alloc (.cells #[.int .u64 (limb m 0), .int .u64 (limb m 1), .int .u64 (limb m 2), .int .u64 (limb m 3)] 24)) := ⟨hs.alloc _, row_lit4 (limb m) rfl rfl rfl rfl rfl⟩
                go_cut [23] (fun t23 wx => t23 = .bool true ∧ RK w a b c z o p9 p10 wx)
                case first =>
                  by_cases hk0 : k = 0
                  · as_aux_lemma =>
                    subst hk0
                    obtain ⟨v234, Hv234⟩ : ∃ v, Hid (v = fcalc 8 (a % M) (b % M) (o % M)) := ⟨_, rfl⟩
                    have E236 : eqw v234 z = true := k236 HZ.out HO.out Hv234.out
                    refine wp_region_table (by kernel_rfl) (fun x => RK w a b c z o p9 p10 x ∧ x.rowIs w8.heap.size 24 4 (u64s (limb m))) [(231, wv a), (232, wv b), (233, wv o), (234, wv v234), (235, wv z), (236, .bool true), (237, .bool true), (238, .int .i64 ((0 : Nat) : Int)), (239, .bool true), (240, .bool true), (241, undef), (242, undef), (243, undef), (244, undef), (245, undef), (246, undef), (247, undef), (248, undef), (249, undef), (250, undef), (251, undef), (252, undef), (253, undef), (254, undef), (255, undef), (256, undef), (257, undef), (258, undef), (259, undef), (260, undef), (261, undef), (262, undef), (263, undef), (264, undef), (265, undef), (266, undef), (267, undef), (268, undef), (269, undef), (270, undef), (271, undef), (272, undef), (273, .bool true), (274, .bool true), (23, .bool true)] (by kernel_rfl) rfl (by kernel_rfl) (by kernel_rfl) ⟨hs.1.drew, hs.2⟩ [(4, .pointer (some ⟨w.heap.size, 0, none⟩)), (5, .pointer (some ⟨w.heap.size + 1, 0, none⟩)), (10, .pointer (some ⟨p10, 0, none⟩)), (9, .pointer (some ⟨p9, 0, none⟩)), (18, .int .i64 ((0 : Nat) : Int))] (by intro p hp; simp only [List.mem_cons, List.not_mem_nil, or_false] at hp; rcases hp with rfl | rfl | rfl | rfl | rfl <;> rfl) (by kernel_rfl) [] (fun p hp => by cases hp) ?_ ?_
                    · as_aux_lemma =>
                      intro i o d v ho ht s x hs hb hb2 hdep
                      have hi : i < 45 := (Array.getElem?_eq_some_iff.1 ho).1
                      rcases j45 hi with rfl | rfl | rfl | rfl | rfl | rfl | rfl | rfl | rfl | rfl | rfl | rfl | rfl | rfl | rfl | rfl | rfl | rfl | rfl | rfl | rfl | rfl | rfl | rfl | rfl | rfl | rfl | rfl | rfl | rfl | rfl | rfl | rfl | rfl | rfl | rfl | rfl | rfl | rfl | rfl | rfl | rfl | rfl | rfl | rfl
                      · obtain rfl := Option.some.inj (show some _ = some o from ho)
                        obtain ⟨rfl, rfl⟩ := Prod.mk.inj (Option.some.inj (show some (_, _) = some (d, v) from ht))
                        exact Or.inl ⟨want_none rfl, fun K hK => st_load 4 231 _ _ (hb _ (List.Mem.head _)) hs.1.ra (hK x hs)⟩
                      · obtain rfl := Option.some.inj (show some _ = some o from ho)
                        obtain ⟨rfl, rfl⟩ := Prod.mk.inj (Option.some.inj (show some (_, _) = some (d, v) from ht))
                        exact Or.inl ⟨want_none rfl, fun K hK => st_load 5 232 _ _ (hb _ (List.Mem.tail _ (List.Mem.head _))) hs.1.rb (hK x hs)⟩
                      · obtain rfl := Option.some.inj (show some _ = some o from ho)
                        obtain ⟨rfl, rfl⟩ := Prod.mk.inj (Option.some.inj (show some (_, _) = some (d, v) from ht))
                        exact Or.inl ⟨want_none rfl, fun K hK => st_load 10 233 _ _ (hb _ (List.Mem.tail _ (List.Mem.tail _ (List.Mem.head _)))) hs.1.r10 (hK x hs)⟩
                      · obtain rfl := Option.some.inj (show some _ = some o from ho)
                        obtain ⟨rfl, rfl⟩ := Prod.mk.inj (Option.some.inj (show some (_, _) = some (d, v) from ht))
                        exact Or.inl ⟨want_none rfl, fun K hK => st_calc 8 231 232 233 234 _ _ _ _ (by decide) (by decide) (hdep ⟨0, .data⟩ (by simp) rfl _ _ rfl) (hdep ⟨1, .data⟩ (by simp) rfl _ _ rfl) (hdep ⟨2, .data⟩ (by simp) rfl _ _ rfl) Hv234 (fun x' hb' => hK x' ((⟨hs.1.call hb', row_below hs.2 hb'⟩)))⟩
                      · obtain rfl := Option.some.inj (show some _ = some o from ho)
                        obtain ⟨rfl, rfl⟩ := Prod.mk.inj (Option.some.inj (show some (_, _) = some (d, v) from ht))
                        exact Or.inl ⟨want_none rfl, fun K hK => st_load 9 235 _ _ (hb _ (List.Mem.tail _ (List.Mem.tail _ (List.Mem.tail _ (List.Mem.head _))))) hs.1.r9 (hK x hs)⟩
                      · obtain rfl := Option.some.inj (show some _ = some o from ho)
                        obtain ⟨rfl, rfl⟩ := Prod.mk.inj (Option.some.inj (show some (_, _) = some (d, v) from ht))
                        exact Or.inl ⟨want_none rfl, fun K hK => st_eql 234 235 236 _ _ true (hdep ⟨3, .data⟩ (by simp) rfl _ _ rfl) (hdep ⟨4, .data⟩ (by simp) rfl _ _ rfl) E236 (hK x hs)⟩
                      · obtain rfl := Option.some.inj (show some _ = some o from ho)
                        obtain ⟨rfl, rfl⟩ := Prod.mk.inj (Option.some.inj (show some (_, _) = some (d, v) from ht))
                        exact Or.inl ⟨want_none rfl, fun K hK => st_move 236 237 _ (hdep ⟨5, .data⟩ (by simp) rfl _ _ rfl) (hK x hs)⟩
                      · obtain rfl := Option.some.inj (show some _ = some o from ho)
                        obtain ⟨rfl, rfl⟩ := Prod.mk.inj (Option.some.inj (show some (_, _) = some (d, v) from ht))
                        exact Or.inl ⟨want_some rfl rfl rfl (hdep ⟨6, .guard⟩ (by simp) rfl _ _ rfl), fun K hK => st_move 18 238 _ (hb _ (List.Mem.tail _ (List.Mem.tail _ (List.Mem.tail _ (List.Mem.tail _ (List.Mem.head _)))))) (hK x hs)⟩
                      · obtain rfl := Option.some.inj (show some _ = some o from ho)
                        obtain ⟨rfl, rfl⟩ := Prod.mk.inj (Option.some.inj (show some (_, _) = some (d, v) from ht))
                        exact Or.inl ⟨want_some rfl rfl rfl (hdep ⟨6, .guard⟩ (by simp) rfl _ _ rfl), fun K hK => st_eq0 238 239 0 true (by simp) (hdep ⟨7, .data⟩ (by simp) rfl _ _ rfl) (hK x hs)⟩
                      · obtain rfl := Option.some.inj (show some _ = some o from ho)
                        obtain ⟨rfl, rfl⟩ := Prod.mk.inj (Option.some.inj (show some (_, _) = some (d, v) from ht))
                        exact Or.inl ⟨want_some rfl rfl rfl (hdep ⟨6, .guard⟩ (by simp) rfl _ _ rfl), fun K hK => st_move 239 240 _ (hdep ⟨8, .data⟩ (by simp) rfl _ _ rfl) (hK x hs)⟩
                      · obtain rfl := Option.some.inj (show some _ = some o from ho)
                        obtain ⟨rfl, rfl⟩ := Prod.mk.inj (Option.some.inj (show some (_, _) = some (d, v) from ht))
                        exact Or.inr ⟨nowant_f rfl rfl rfl (hdep ⟨9, .guard⟩ (by simp) rfl _ _ rfl), rfl, rfl⟩
                      · obtain rfl := Option.some.inj (show some _ = some o from ho)
                        obtain ⟨rfl, rfl⟩ := Prod.mk.inj (Option.some.inj (show some (_, _) = some (d, v) from ht))
                        exact Or.inr ⟨nowant_f rfl rfl rfl (hdep ⟨9, .guard⟩ (by simp) rfl _ _ rfl), rfl, rfl⟩
                      · obtain rfl := Option.some.inj (show some _ = some o from ho)
                        obtain ⟨rfl, rfl⟩ := Prod.mk.inj (Option.some.inj (show some (_, _) = some (d, v) from ht))
                        exact Or.inr ⟨nowant_f rfl rfl rfl (hdep ⟨9, .guard⟩ (by simp) rfl _ _ rfl), rfl, rfl⟩
                      · obtain rfl := Option.some.inj (show some _ = some o from ho)
                        obtain ⟨rfl, rfl⟩ := Prod.mk.inj (Option.some.inj (show some (_, _) = some (d, v) from ht))
                        exact Or.inr ⟨nowant_f rfl rfl rfl (hdep ⟨9, .guard⟩ (by simp) rfl _ _ rfl), rfl, rfl⟩
                      · obtain rfl := Option.some.inj (show some _ = some o from ho)
                        obtain ⟨rfl, rfl⟩ := Prod.mk.inj (Option.some.inj (show some (_, _) = some (d, v) from ht))
                        exact Or.inr ⟨nowant_f rfl rfl rfl (hdep ⟨9, .guard⟩ (by simp) rfl _ _ rfl), rfl, rfl⟩
                      · obtain rfl := Option.some.inj (show some _ = some o from ho)
                        obtain ⟨rfl, rfl⟩ := Prod.mk.inj (Option.some.inj (show some (_, _) = some (d, v) from ht))
                        exact Or.inr ⟨nowant_f rfl rfl rfl (hdep ⟨9, .guard⟩ (by simp) rfl _ _ rfl), rfl, rfl⟩
                      · obtain rfl := Option.some.inj (show some _ = some o from ho)
                        obtain ⟨rfl, rfl⟩ := Prod.mk.inj (Option.some.inj (show some (_, _) = some (d, v) from ht))
                        exact Or.inr ⟨nowant_f rfl rfl rfl (hdep ⟨9, .guard⟩ (by simp) rfl _ _ rfl), rfl, rfl⟩
                      · obtain rfl := Option.some.inj (show some _ = some o from ho)
                        obtain ⟨rfl, rfl⟩ := Prod.mk.inj (Option.some.inj (show some (_, _) = some (d, v) from ht))
                        exact Or.inr ⟨nowant_f rfl rfl rfl (hdep ⟨9, .guard⟩ (by simp) rfl _ _ rfl), rfl, rfl⟩
                      · obtain rfl := Option.some.inj (show some _ = some o from ho)
                        obtain ⟨rfl, rfl⟩ := Prod.mk.inj (Option.some.inj (show some (_, _) = some (d, v) from ht))
                        exact Or.inr ⟨nowant_f rfl rfl rfl (hdep ⟨9, .guard⟩ (by simp) rfl _ _ rfl), rfl, rfl⟩
                      · obtain rfl := Option.some.inj (show some _ = some o from ho)
                        obtain ⟨rfl, rfl⟩ := Prod.mk.inj (Option.some.inj (show some (_, _) = some (d, v) from ht))
                        exact Or.inr ⟨nowant_f rfl rfl rfl (hdep ⟨9, .guard⟩ (by simp) rfl _ _ rfl), rfl, rfl⟩
                      · obtain rfl := Option.some.inj (show some _ = some o from ho)
                        obtain ⟨rfl, rfl⟩ := Prod.mk.inj (Option.some.inj (show some (_, _) = some (d, v) from ht))
                        exact Or.inr ⟨nowant_f rfl rfl rfl (hdep ⟨9, .guard⟩ (by simp) rfl _ _ rfl), rfl, rfl⟩
                      · obtain rfl := Option.some.inj (show some _ = some o from ho)
                        obtain ⟨rfl, rfl⟩ := Prod.mk.inj (Option.some.inj (show some (_, _) = some (d, v) from ht))
                        exact Or.inr ⟨nowant_f rfl rfl rfl (hdep ⟨9, .guard⟩ (by simp) rfl _ _ rfl), rfl, rfl⟩
                      · obtain rfl := Option.some.inj (show some _ = some o from ho)
                        obtain ⟨rfl, rfl⟩ := Prod.mk.inj (Option.some.inj (show some (_, _) = some (d, v) from ht))
                        exact Or.inr ⟨nowant_f rfl rfl rfl (hdep ⟨9, .guard⟩ (by simp) rfl _ _ rfl), rfl, rfl⟩
                      · obtain rfl := Option.some.inj (show some _ = some o from ho)
                        obtain ⟨rfl, rfl⟩ := Prod.mk.inj (Option.some.inj (show some (_, _) = some (d, v) from ht))
                        exact Or.inr ⟨nowant_f rfl rfl rfl (hdep ⟨9, .guard⟩ (by simp) rfl _ _ rfl), rfl, rfl⟩
                      · obtain rfl := Option.some.inj (show some _ = some o from ho)
                        obtain ⟨rfl, rfl⟩ := Prod.mk.inj (Option.some.inj (show some (_, _) = some (d, v) from ht))
                        exact Or.inr ⟨nowant_f rfl rfl rfl (hdep ⟨9, .guard⟩ (by simp) rfl _ _ rfl), rfl, rfl⟩
                      · obtain rfl := Option.some.inj (show some _ = some o from ho)
                        obtain ⟨rfl, rfl⟩ := Prod.mk.inj (Option.some.inj (show some (_, _) = some (d, v) from ht))
                        exact Or.inr ⟨nowant_f rfl rfl rfl (hdep ⟨9, .guard⟩ (by simp) rfl _ _ rfl), rfl, rfl⟩
                      · obtain rfl := Option.some.inj (show some _ = some o from ho)
                        obtain ⟨rfl, rfl⟩ := Prod.mk.inj (Option.some.inj (show some (_, _) = some (d, v) from ht))
                        exact Or.inr ⟨nowant_u rfl rfl rfl (hdep ⟨25, .guard⟩ (by simp) rfl _ _ rfl), rfl, rfl⟩
                      · obtain rfl := Option.some.inj (show some _ = some o from ho)
                        obtain ⟨rfl, rfl⟩ := Prod.mk.inj (Option.some.inj (show some (_, _) = some (d, v) from ht))
                        exact Or.inr ⟨nowant_u rfl rfl rfl (hdep ⟨25, .guard⟩ (by simp) rfl _ _ rfl), rfl, rfl⟩
                      · obtain rfl := Option.some.inj (show some _ = some o from ho)
                        obtain ⟨rfl, rfl⟩ := Prod.mk.inj (Option.some.inj (show some (_, _) = some (d, v) from ht))
                        exact Or.inr ⟨nowant_u rfl rfl rfl (hdep ⟨25, .guard⟩ (by simp) rfl _ _ rfl), rfl, rfl⟩
                      · obtain rfl := Option.some.inj (show some _ = some o from ho)
                        obtain ⟨rfl, rfl⟩ := Prod.mk.inj (Option.some.inj (show some (_, _) = some (d, v) from ht))
                        exact Or.inr ⟨nowant_u rfl rfl rfl (hdep ⟨25, .guard⟩ (by simp) rfl _ _ rfl), rfl, rfl⟩
                      · obtain rfl := Option.some.inj (show some _ = some o from ho)
                        obtain ⟨rfl, rfl⟩ := Prod.mk.inj (Option.some.inj (show some (_, _) = some (d, v) from ht))
                        exact Or.inr ⟨nowant_u rfl rfl rfl (hdep ⟨25, .guard⟩ (by simp) rfl _ _ rfl), rfl, rfl⟩
                      · obtain rfl := Option.some.inj (show some _ = some o from ho)
                        obtain ⟨rfl, rfl⟩ := Prod.mk.inj (Option.some.inj (show some (_, _) = some (d, v) from ht))
                        exact Or.inr ⟨nowant_u rfl rfl rfl (hdep ⟨25, .guard⟩ (by simp) rfl _ _ rfl), rfl, rfl⟩
                      · obtain rfl := Option.some.inj (show some _ = some o from ho)
                        obtain ⟨rfl, rfl⟩ := Prod.mk.inj (Option.some.inj (show some (_, _) = some (d, v) from ht))
                        exact Or.inr ⟨nowant_u rfl rfl rfl (hdep ⟨25, .guard⟩ (by simp) rfl _ _ rfl), rfl, rfl⟩
                      · obtain rfl := Option.some.inj (show some _ = some o from ho)
                        obtain ⟨rfl, rfl⟩ := Prod.mk.inj (Option.some.inj (show some (_, _) = some (d, v) from ht))
                        exact Or.inr ⟨nowant_u rfl rfl rfl (hdep ⟨25, .guard⟩ (by simp) rfl _ _ rfl), rfl, rfl⟩
                      · obtain rfl := Option.some.inj (show some _ = some o from ho)
                        obtain ⟨rfl, rfl⟩ := Prod.mk.inj (Option.some.inj (show some (_, _) = some (d, v) from ht))
                        exact Or.inr ⟨nowant_u rfl rfl rfl (hdep ⟨25, .guard⟩ (by simp) rfl _ _ rfl), rfl, rfl⟩
                      · obtain rfl := Option.some.inj (show some _ = some o from ho)
                        obtain ⟨rfl, rfl⟩ := Prod.mk.inj (Option.some.inj (show some (_, _) = some (d, v) from ht))
                        exact Or.inr ⟨nowant_u rfl rfl rfl (hdep ⟨25, .guard⟩ (by simp) rfl _ _ rfl), rfl, rfl⟩
                      · obtain rfl := Option.some.inj (show some _ = some o from ho)
                        obtain ⟨rfl, rfl⟩ := Prod.mk.inj (Option.some.inj (show some (_, _) = some (d, v) from ht))
                        exact Or.inr ⟨nowant_u rfl rfl rfl (hdep ⟨25, .guard⟩ (by simp) rfl _ _ rfl), rfl, rfl⟩
                      · obtain rfl := Option.some.inj (show some _ = some o from ho)
                        obtain ⟨rfl, rfl⟩ := Prod.mk.inj (Option.some.inj (show some (_, _) = some (d, v) from ht))
                        exact Or.inr ⟨nowant_u rfl rfl rfl (hdep ⟨25, .guard⟩ (by simp) rfl _ _ rfl), rfl, rfl⟩
                      · obtain rfl := Option.some.inj (show some _ = some o from ho)
                        obtain ⟨rfl, rfl⟩ := Prod.mk.inj (Option.some.inj (show some (_, _) = some (d, v) from ht))
                        exact Or.inr ⟨nowant_u rfl rfl rfl (hdep ⟨25, .guard⟩ (by simp) rfl _ _ rfl), rfl, rfl⟩
                      · obtain rfl := Option.some.inj (show some _ = some o from ho)
                        obtain ⟨rfl, rfl⟩ := Prod.mk.inj (Option.some.inj (show some (_, _) = some (d, v) from ht))
                        exact Or.inr ⟨nowant_u rfl rfl rfl (hdep ⟨25, .guard⟩ (by simp) rfl _ _ rfl), rfl, rfl⟩
                      · obtain rfl := Option.some.inj (show some _ = some o from ho)
                        obtain ⟨rfl, rfl⟩ := Prod.mk.inj (Option.some.inj (show some (_, _) = some (d, v) from ht))
                        exact Or.inr ⟨nowant_u rfl rfl rfl (hdep ⟨25, .guard⟩ (by simp) rfl _ _ rfl), rfl, rfl⟩
                      · obtain rfl := Option.some.inj (show some _ = some o from ho)
                        obtain ⟨rfl, rfl⟩ := Prod.mk.inj (Option.some.inj (show some (_, _) = some (d, v) from ht))
                        exact Or.inr ⟨nowant_f rfl rfl rfl (hdep ⟨9, .guard⟩ (by simp) rfl _ _ rfl), rfl, rfl⟩
                      · obtain rfl := Option.some.inj (show some _ = some o from ho)
                        obtain ⟨rfl, rfl⟩ := Prod.mk.inj (Option.some.inj (show some (_, _) = some (d, v) from ht))
                        exact Or.inl ⟨want_some rfl rfl rfl (hdep ⟨6, .guard⟩ (by simp) rfl _ _ rfl), fun K hK => st_pickc 240 272 273 (hdep ⟨9, .data⟩ (by simp) rfl _ _ rfl) (hK x hs)⟩
                      · obtain rfl := Option.some.inj (show some _ = some o from ho)
                        obtain ⟨rfl, rfl⟩ := Prod.mk.inj (Option.some.inj (show some (_, _) = some (d, v) from ht))
                        exact Or.inl ⟨want_none rfl, fun K hK => st_pick 237 273 274 (hdep ⟨6, .data⟩ (by simp) rfl _ _ rfl) (hdep ⟨42, .data⟩ (by simp) rfl _ _ rfl) (hK x hs)⟩
                      · obtain rfl := Option.some.inj (show some _ = some o from ho)
                        obtain ⟨rfl, rfl⟩ := Prod.mk.inj (Option.some.inj (show some (_, _) = some (d, v) from ht))
                        exact Or.inl ⟨want_none rfl, fun K hK => st_assign 274 23 _ (hdep ⟨43, .data⟩ (by simp) rfl _ _ rfl) (hK x hs)⟩
                    · intro x hs
                      as_aux_lemma =>
                      simp only [fill, List.foldl, Act.put, List.setIfInBounds_toArray, List.set_cons_zero, List.set_cons_succ]
                      go_wp2_with fail
                      go_meet
                      case rel => exact ⟨rfl, hs.1⟩
                  · as_aux_lemma =>
                    obtain ⟨v234, Hv234⟩ : ∃ v, Hid (v = fcalc 8 (a % M) (b % M) (o % M)) := ⟨_, rfl⟩
                    have E236 : eqw v234 z = true := k236 HZ.out HO.out Hv234.out
                    obtain ⟨v244, Hv244⟩ : ∃ v, Hid (v = fcalc 8 (a % M) (b % M) (m % M)) := ⟨_, rfl⟩
                    obtain ⟨v248, Hv248⟩ : ∃ v, Hid (v = fcalc 6 (a % M) (m % M) (z % M)) := ⟨_, rfl⟩
                    obtain ⟨v252, Hv252⟩ : ∃ v, Hid (v = fcalc 6 (b % M) (m % M) (z % M)) := ⟨_, rfl⟩
                    obtain ⟨v254, Hv254⟩ : ∃ v, Hid (v = fcalc 8 (v248 % M) (v252 % M) (m % M)) := ⟨_, rfl⟩
                    have E255 : eqw v244 v254 = true := k255 hk hk0 HM.out Hv244.out Hv248.out Hv252.out Hv254.out
                    obtain ⟨v260, Hv260⟩ : ∃ v, Hid (v = fcalc 9 (a % M) (b % M) (m % M)) := ⟨_, rfl⟩
                    obtain ⟨v264, Hv264⟩ : ∃ v, Hid (v = fcalc 6 (a % M) (m % M) (z % M)) := ⟨_, rfl⟩
                    obtain ⟨v268, Hv268⟩ : ∃ v, Hid (v = fcalc 6 (b % M) (m % M) (z % M)) := ⟨_, rfl⟩
                    obtain ⟨v270, Hv270⟩ : ∃ v, Hid (v = fcalc 9 (v264 % M) (v268 % M) (m % M)) := ⟨_, rfl⟩
                    have E271 : eqw v260 v270 = true := k271 hk hk0 HM.out Hv260.out Hv264.out Hv268.out Hv270.out
                    refine wp_region_table (by kernel_rfl) (fun x => RK w a b c z o p9 p10 x ∧ x.rowIs w8.heap.size 24 4 (u64s (limb m))) [(231, wv a), (232, wv b), (233, wv o), (234, wv v234), (235, wv z), (236, .bool true), (237, .bool true), (238, .int .i64 (k : Int)), (239, .bool false), (240, .bool false), (241, wv a), (242, wv b), (243, wv m), (244, wv v244), (245, wv a), (246, wv m), (247, wv z), (248, wv v248), (249, wv b), (250, wv m), (251, wv z), (252, wv v252), (253, wv m), (254, wv v254), (255, .bool true), (256, .bool true), (257, wv a), (258, wv b), (259, wv m), (260, wv v260), (261, wv a), (262, wv m), (263, wv z), (264, wv v264), (265, wv b), (266, wv m), (267, wv z), (268, wv v268), (269, wv m), (270, wv v270), (271, .bool true), (272, .bool true), (273, .bool true), (274, .bool true), (23, .bool true)] (by kernel_rfl) rfl (by kernel_rfl) (by kernel_rfl) ⟨hs.1.drew, hs.2⟩ [(4, .pointer (some ⟨w.heap.size, 0, none⟩)), (5, .pointer (some ⟨w.heap.size + 1, 0, none⟩)), (10, .pointer (some ⟨p10, 0, none⟩)), (9, .pointer (some ⟨p9, 0, none⟩)), (18, .int .i64 (k : Int)), (22, .pointer (some ⟨w8.heap.size, 0, none⟩))] (by intro p hp; simp only [List.mem_cons, List.not_mem_nil, or_false] at hp; rcases hp with rfl | rfl | rfl | rfl | rfl | rfl <;> rfl) (by kernel_rfl) [] (fun p hp => by cases hp) ?_ ?_
                    · as_aux_lemma =>
                      intro i o d v ho ht s x hs hb hb2 hdep
                      have hi : i < 45 := (Array.getElem?_eq_some_iff.1 ho).1
                      rcases j45 hi with rfl | rfl | rfl | rfl | rfl | rfl | rfl | rfl | rfl | rfl | rfl | rfl | rfl | rfl | rfl | rfl | rfl | rfl | rfl | rfl | rfl | rfl | rfl | rfl | rfl | rfl | rfl | rfl | rfl | rfl | rfl | rfl | rfl | rfl | rfl | rfl | rfl | rfl | rfl | rfl | rfl | rfl | rfl | rfl | rfl
                      · obtain rfl := Option.some.inj (show some _ = some o from ho)
                        obtain ⟨rfl, rfl⟩ := Prod.mk.inj (Option.some.inj (show some (_, _) = some (d, v) from ht))
                        exact Or.inl ⟨want_none rfl, fun K hK => st_load 4 231 _ _ (hb _ (List.Mem.head _)) hs.1.ra (hK x hs)⟩
                      · obtain rfl := Option.some.inj (show some _ = some o from ho)
                        obtain ⟨rfl, rfl⟩ := Prod.mk.inj (Option.some.inj (show some (_, _) = some (d, v) from ht))
                        exact Or.inl ⟨want_none rfl, fun K hK => st_load 5 232 _ _ (hb _ (List.Mem.tail _ (List.Mem.head _))) hs.1.rb (hK x hs)⟩
                      · obtain rfl := Option.some.inj (show some _ = some o from ho)
                        obtain ⟨rfl, rfl⟩ := Prod.mk.inj (Option.some.inj (show some (_, _) = some (d, v) from ht))
                        exact Or.inl ⟨want_none rfl, fun K hK => st_load 10 233 _ _ (hb _ (List.Mem.tail _ (List.Mem.tail _ (List.Mem.head _)))) hs.1.r10 (hK x hs)⟩
                      · obtain rfl := Option.some.inj (show some _ = some o from ho)
                        obtain ⟨rfl, rfl⟩ := Prod.mk.inj (Option.some.inj (show some (_, _) = some (d, v) from ht))
                        exact Or.inl ⟨want_none rfl, fun K hK => st_calc 8 231 232 233 234 _ _ _ _ (by decide) (by decide) (hdep ⟨0, .data⟩ (by simp) rfl _ _ rfl) (hdep ⟨1, .data⟩ (by simp) rfl _ _ rfl) (hdep ⟨2, .data⟩ (by simp) rfl _ _ rfl) Hv234 (fun x' hb' => hK x' ((⟨hs.1.call hb', row_below hs.2 hb'⟩)))⟩
                      · obtain rfl := Option.some.inj (show some _ = some o from ho)
                        obtain ⟨rfl, rfl⟩ := Prod.mk.inj (Option.some.inj (show some (_, _) = some (d, v) from ht))
                        exact Or.inl ⟨want_none rfl, fun K hK => st_load 9 235 _ _ (hb _ (List.Mem.tail _ (List.Mem.tail _ (List.Mem.tail _ (List.Mem.head _))))) hs.1.r9 (hK x hs)⟩
                      · obtain rfl := Option.some.inj (show some _ = some o from ho)
                        obtain ⟨rfl, rfl⟩ := Prod.mk.inj (Option.some.inj (show some (_, _) = some (d, v) from ht))
                        exact Or.inl ⟨want_none rfl, fun K hK => st_eql 234 235 236 _ _ true (hdep ⟨3, .data⟩ (by simp) rfl _ _ rfl) (hdep ⟨4, .data⟩ (by simp) rfl _ _ rfl) E236 (hK x hs)⟩
                      · obtain rfl := Option.some.inj (show some _ = some o from ho)
                        obtain ⟨rfl, rfl⟩ := Prod.mk.inj (Option.some.inj (show some (_, _) = some (d, v) from ht))
                        exact Or.inl ⟨want_none rfl, fun K hK => st_move 236 237 _ (hdep ⟨5, .data⟩ (by simp) rfl _ _ rfl) (hK x hs)⟩
                      · obtain rfl := Option.some.inj (show some _ = some o from ho)
                        obtain ⟨rfl, rfl⟩ := Prod.mk.inj (Option.some.inj (show some (_, _) = some (d, v) from ht))
                        exact Or.inl ⟨want_some rfl rfl rfl (hdep ⟨6, .guard⟩ (by simp) rfl _ _ rfl), fun K hK => st_move 18 238 _ (hb _ (List.Mem.tail _ (List.Mem.tail _ (List.Mem.tail _ (List.Mem.tail _ (List.Mem.head _)))))) (hK x hs)⟩
                      · obtain rfl := Option.some.inj (show some _ = some o from ho)
                        obtain ⟨rfl, rfl⟩ := Prod.mk.inj (Option.some.inj (show some (_, _) = some (d, v) from ht))
                        exact Or.inl ⟨want_some rfl rfl rfl (hdep ⟨6, .guard⟩ (by simp) rfl _ _ rfl), fun K hK => st_eq0 238 239 k false (by simp; omega) (hdep ⟨7, .data⟩ (by simp) rfl _ _ rfl) (hK x hs)⟩
                      · obtain rfl := Option.some.inj (show some _ = some o from ho)
                        obtain ⟨rfl, rfl⟩ := Prod.mk.inj (Option.some.inj (show some (_, _) = some (d, v) from ht))
                        exact Or.inl ⟨want_some rfl rfl rfl (hdep ⟨6, .guard⟩ (by simp) rfl _ _ rfl), fun K hK => st_move 239 240 _ (hdep ⟨8, .data⟩ (by simp) rfl _ _ rfl) (hK x hs)⟩
                      · obtain rfl := Option.some.inj (show some _ = some o from ho)
                        obtain ⟨rfl, rfl⟩ := Prod.mk.inj (Option.some.inj (show some (_, _) = some (d, v) from ht))
                        exact Or.inl ⟨want_somef rfl rfl rfl (hdep ⟨9, .guard⟩ (by simp) rfl _ _ rfl), fun K hK => st_load 4 241 _ _ (hb _ (List.Mem.head _)) hs.1.ra (hK x hs)⟩
                      · obtain rfl := Option.some.inj (show some _ = some o from ho)
                        obtain ⟨rfl, rfl⟩ := Prod.mk.inj (Option.some.inj (show some (_, _) = some (d, v) from ht))
                        exact Or.inl ⟨want_somef rfl rfl rfl (hdep ⟨9, .guard⟩ (by simp) rfl _ _ rfl), fun K hK => st_load 5 242 _ _ (hb _ (List.Mem.tail _ (List.Mem.head _))) hs.1.rb (hK x hs)⟩
                      · obtain rfl := Option.some.inj (show some _ = some o from ho)
                        obtain ⟨rfl, rfl⟩ := Prod.mk.inj (Option.some.inj (show some (_, _) = some (d, v) from ht))
                        exact Or.inl ⟨want_somef rfl rfl rfl (hdep ⟨9, .guard⟩ (by simp) rfl _ _ rfl), fun K hK => st_load 22 243 _ _ (hb _ (List.Mem.tail _ (List.Mem.tail _ (List.Mem.tail _ (List.Mem.tail _ (List.Mem.tail _ (List.Mem.head _))))))) hs.2 (hK x hs)⟩
                      · obtain rfl := Option.some.inj (show some _ = some o from ho)
                        obtain ⟨rfl, rfl⟩ := Prod.mk.inj (Option.some.inj (show some (_, _) = some (d, v) from ht))
                        exact Or.inl ⟨want_somef rfl rfl rfl (hdep ⟨9, .guard⟩ (by simp) rfl _ _ rfl), fun K hK => st_calc 8 241 242 243 244 _ _ _ _ (by decide) (by decide) (hdep ⟨10, .data⟩ (by simp) rfl _ _ rfl) (hdep ⟨11, .data⟩ (by simp) rfl _ _ rfl) (hdep ⟨12, .data⟩ (by simp) rfl _ _ rfl) Hv244 (fun x' hb' => hK x' ((⟨hs.1.call hb', row_below hs.2 hb'⟩)))⟩
                      · obtain rfl := Option.some.inj (show some _ = some o from ho)
                        obtain ⟨rfl, rfl⟩ := Prod.mk.inj (Option.some.inj (show some (_, _) = some (d, v) from ht))
                        exact Or.inl ⟨want_somef rfl rfl rfl (hdep ⟨9, .guard⟩ (by simp) rfl _ _ rfl), fun K hK => st_load 4 245 _ _ (hb _ (List.Mem.head _)) hs.1.ra (hK x hs)⟩
                      · obtain rfl := Option.some.inj (show some _ = some o from ho)
                        obtain ⟨rfl, rfl⟩ := Prod.mk.inj (Option.some.inj (show some (_, _) = some (d, v) from ht))
                        exact Or.inl ⟨want_somef rfl rfl rfl (hdep ⟨9, .guard⟩ (by simp) rfl _ _ rfl), fun K hK => st_load 22 246 _ _ (hb _ (List.Mem.tail _ (List.Mem.tail _ (List.Mem.tail _ (List.Mem.tail _ (List.Mem.tail _ (List.Mem.head _))))))) hs.2 (hK x hs)⟩
                      · obtain rfl := Option.some.inj (show some _ = some o from ho)
                        obtain ⟨rfl, rfl⟩ := Prod.mk.inj (Option.some.inj (show some (_, _) = some (d, v) from ht))
                        exact Or.inl ⟨want_somef rfl rfl rfl (hdep ⟨9, .guard⟩ (by simp) rfl _ _ rfl), fun K hK => st_load 9 247 _ _ (hb _ (List.Mem.tail _ (List.Mem.tail _ (List.Mem.tail _ (List.Mem.head _))))) hs.1.r9 (hK x hs)⟩
                      · obtain rfl := Option.some.inj (show some _ = some o from ho)
                        obtain ⟨rfl, rfl⟩ := Prod.mk.inj (Option.some.inj (show some (_, _) = some (d, v) from ht))
                        exact Or.inl ⟨want_somef rfl rfl rfl (hdep ⟨9, .guard⟩ (by simp) rfl _ _ rfl), fun K hK => st_calc 6 245 246 247 248 _ _ _ _ (by decide) (by decide) (hdep ⟨14, .data⟩ (by simp) rfl _ _ rfl) (hdep ⟨15, .data⟩ (by simp) rfl _ _ rfl) (hdep ⟨16, .data⟩ (by simp) rfl _ _ rfl) Hv248 (fun x' hb' => hK x' ((⟨hs.1.call hb', row_below hs.2 hb'⟩)))⟩
                      · obtain rfl := Option.some.inj (show some _ = some o from ho)
                        obtain ⟨rfl, rfl⟩ := Prod.mk.inj (Option.some.inj (show some (_, _) = some (d, v) from ht))
                        exact Or.inl ⟨want_somef rfl rfl rfl (hdep ⟨9, .guard⟩ (by simp) rfl _ _ rfl), fun K hK => st_load 5 249 _ _ (hb _ (List.Mem.tail _ (List.Mem.head _))) hs.1.rb (hK x hs)⟩
                      · obtain rfl := Option.some.inj (show some _ = some o from ho)
                        obtain ⟨rfl, rfl⟩ := Prod.mk.inj (Option.some.inj (show some (_, _) = some (d, v) from ht))
                        exact Or.inl ⟨want_somef rfl rfl rfl (hdep ⟨9, .guard⟩ (by simp) rfl _ _ rfl), fun K hK => st_load 22 250 _ _ (hb _ (List.Mem.tail _ (List.Mem.tail _ (List.Mem.tail _ (List.Mem.tail _ (List.Mem.tail _ (List.Mem.head _))))))) hs.2 (hK x hs)⟩
                      · obtain rfl := Option.some.inj (show some _ = some o from ho)
                        obtain ⟨rfl, rfl⟩ := Prod.mk.inj (Option.some.inj (show some (_, _) = some (d, v) from ht))
                        exact Or.inl ⟨want_somef rfl rfl rfl (hdep ⟨9, .guard⟩ (by simp) rfl _ _ rfl), fun K hK => st_load 9 251 _ _ (hb _ (List.Mem.tail _ (List.Mem.tail _ (List.Mem.tail _ (List.Mem.head _))))) hs.1.r9 (hK x hs)⟩
                      · obtain rfl := Option.some.inj (show some _ = some o from ho)
                        obtain ⟨rfl, rfl⟩ := Prod.mk.inj (Option.some.inj (show some (_, _) = some (d, v) from ht))
                        exact Or.inl ⟨want_somef rfl rfl rfl (hdep ⟨9, .guard⟩ (by simp) rfl _ _ rfl), fun K hK => st_calc 6 249 250 251 252 _ _ _ _ (by decide) (by decide) (hdep ⟨18, .data⟩ (by simp) rfl _ _ rfl) (hdep ⟨19, .data⟩ (by simp) rfl _ _ rfl) (hdep ⟨20, .data⟩ (by simp) rfl _ _ rfl) Hv252 (fun x' hb' => hK x' ((⟨hs.1.call hb', row_below hs.2 hb'⟩)))⟩
                      · obtain rfl := Option.some.inj (show some _ = some o from ho)
                        obtain ⟨rfl, rfl⟩ := Prod.mk.inj (Option.some.inj (show some (_, _) = some (d, v) from ht))
                        exact Or.inl ⟨want_somef rfl rfl rfl (hdep ⟨9, .guard⟩ (by simp) rfl _ _ rfl), fun K hK => st_load 22 253 _ _ (hb _ (List.Mem.tail _ (List.Mem.tail _ (List.Mem.tail _ (List.Mem.tail _ (List.Mem.tail _ (List.Mem.head _))))))) hs.2 (hK x hs)⟩
                      · obtain rfl := Option.some.inj (show some _ = some o from ho)
                        obtain ⟨rfl, rfl⟩ := Prod.mk.inj (Option.some.inj (show some (_, _) = some (d, v) from ht))
                        exact Or.inl ⟨want_somef rfl rfl rfl (hdep ⟨9, .guard⟩ (by simp) rfl _ _ rfl), fun K hK => st_calc 8 248 252 253 254 _ _ _ _ (by decide) (by decide) (hdep ⟨17, .data⟩ (by simp) rfl _ _ rfl) (hdep ⟨21, .data⟩ (by simp) rfl _ _ rfl) (hdep ⟨22, .data⟩ (by simp) rfl _ _ rfl) Hv254 (fun x' hb' => hK x' ((⟨hs.1.call hb', row_below hs.2 hb'⟩)))⟩
                      · obtain rfl := Option.some.inj (show some _ = some o from ho)
                        obtain ⟨rfl, rfl⟩ := Prod.mk.inj (Option.some.inj (show some (_, _) = some (d, v) from ht))
                        exact Or.inl ⟨want_somef rfl rfl rfl (hdep ⟨9, .guard⟩ (by simp) rfl _ _ rfl), fun K hK => st_eql 244 254 255 _ _ true (hdep ⟨13, .data⟩ (by simp) rfl _ _ rfl) (hdep ⟨23, .data⟩ (by simp) rfl _ _ rfl) E255 (hK x hs)⟩
                      · obtain rfl := Option.some.inj (show some _ = some o from ho)
                        obtain ⟨rfl, rfl⟩ := Prod.mk.inj (Option.some.inj (show some (_, _) = some (d, v) from ht))
                        exact Or.inl ⟨want_somef rfl rfl rfl (hdep ⟨9, .guard⟩ (by simp) rfl _ _ rfl), fun K hK => st_move 255 256 _ (hdep ⟨24, .data⟩ (by simp) rfl _ _ rfl) (hK x hs)⟩
                      · obtain rfl := Option.some.inj (show some _ = some o from ho)
                        obtain ⟨rfl, rfl⟩ := Prod.mk.inj (Option.some.inj (show some (_, _) = some (d, v) from ht))
                        exact Or.inl ⟨want_some rfl rfl rfl (hdep ⟨25, .guard⟩ (by simp) rfl _ _ rfl), fun K hK => st_load 4 257 _ _ (hb _ (List.Mem.head _)) hs.1.ra (hK x hs)⟩
                      · obtain rfl := Option.some.inj (show some _ = some o from ho)
                        obtain ⟨rfl, rfl⟩ := Prod.mk.inj (Option.some.inj (show some (_, _) = some (d, v) from ht))
                        exact Or.inl ⟨want_some rfl rfl rfl (hdep ⟨25, .guard⟩ (by simp) rfl _ _ rfl), fun K hK => st_load 5 258 _ _ (hb _ (List.Mem.tail _ (List.Mem.head _))) hs.1.rb (hK x hs)⟩
                      · obtain rfl := Option.some.inj (show some _ = some o from ho)
                        obtain ⟨rfl, rfl⟩ := Prod.mk.inj (Option.some.inj (show some (_, _) = some (d, v) from ht))
                        exact Or.inl ⟨want_some rfl rfl rfl (hdep ⟨25, .guard⟩ (by simp) rfl _ _ rfl), fun K hK => st_load 22 259 _ _ (hb _ (List.Mem.tail _ (List.Mem.tail _ (List.Mem.tail _ (List.Mem.tail _ (List.Mem.tail _ (List.Mem.head _))))))) hs.2 (hK x hs)⟩
                      · obtain rfl := Option.some.inj (show some _ = some o from ho)
                        obtain ⟨rfl, rfl⟩ := Prod.mk.inj (Option.some.inj (show some (_, _) = some (d, v) from ht))
                        exact Or.inl ⟨want_some rfl rfl rfl (hdep ⟨25, .guard⟩ (by simp) rfl _ _ rfl), fun K hK => st_calc 9 257 258 259 260 _ _ _ _ (by decide) (by decide) (hdep ⟨26, .data⟩ (by simp) rfl _ _ rfl) (hdep ⟨27, .data⟩ (by simp) rfl _ _ rfl) (hdep ⟨28, .data⟩ (by simp) rfl _ _ rfl) Hv260 (fun x' hb' => hK x' ((⟨hs.1.call hb', row_below hs.2 hb'⟩)))⟩
                      · obtain rfl := Option.some.inj (show some _ = some o from ho)
                        obtain ⟨rfl, rfl⟩ := Prod.mk.inj (Option.some.inj (show some (_, _) = some (d, v) from ht))
                        exact Or.inl ⟨want_some rfl rfl rfl (hdep ⟨25, .guard⟩ (by simp) rfl _ _ rfl), fun K hK => st_load 4 261 _ _ (hb _ (List.Mem.head _)) hs.1.ra (hK x hs)⟩
                      · obtain rfl := Option.some.inj (show some _ = some o from ho)
                        obtain ⟨rfl, rfl⟩ := Prod.mk.inj (Option.some.inj (show some (_, _) = some (d, v) from ht))
                        exact Or.inl ⟨want_some rfl rfl rfl (hdep ⟨25, .guard⟩ (by simp) rfl _ _ rfl), fun K hK => st_load 22 262 _ _ (hb _ (List.Mem.tail _ (List.Mem.tail _ (List.Mem.tail _ (List.Mem.tail _ (List.Mem.tail _ (List.Mem.head _))))))) hs.2 (hK x hs)⟩
                      · obtain rfl := Option.some.inj (show some _ = some o from ho)
                        obtain ⟨rfl, rfl⟩ := Prod.mk.inj (Option.some.inj (show some (_, _) = some (d, v) from ht))
                        exact Or.inl ⟨want_some rfl rfl rfl (hdep ⟨25, .guard⟩ (by simp) rfl _ _ rfl), fun K hK => st_load 9 263 _ _ (hb _ (List.Mem.tail _ (List.Mem.tail _ (List.Mem.tail _ (List.Mem.head _))))) hs.1.r9 (hK x hs)⟩
                      · obtain rfl := Option.some.inj (show some _ = some o from ho)
                        obtain ⟨rfl, rfl⟩ := Prod.mk.inj (Option.some.inj (show some (_, _) = some (d, v) from ht))
                        exact Or.inl ⟨want_some rfl rfl rfl (hdep ⟨25, .guard⟩ (by simp) rfl _ _ rfl), fun K hK => st_calc 6 261 262 263 264 _ _ _ _ (by decide) (by decide) (hdep ⟨30, .data⟩ (by simp) rfl _ _ rfl) (hdep ⟨31, .data⟩ (by simp) rfl _ _ rfl) (hdep ⟨32, .data⟩ (by simp) rfl _ _ rfl) Hv264 (fun x' hb' => hK x' ((⟨hs.1.call hb', row_below hs.2 hb'⟩)))⟩
                      · obtain rfl := Option.some.inj (show some _ = some o from ho)
                        obtain ⟨rfl, rfl⟩ := Prod.mk.inj (Option.some.inj (show some (_, _) = some (d, v) from ht))
                        exact Or.inl ⟨want_some rfl rfl rfl (hdep ⟨25, .guard⟩ (by simp) rfl _ _ rfl), fun K hK => st_load 5 265 _ _ (hb _ (List.Mem.tail _ (List.Mem.head _))) hs.1.rb (hK x hs)⟩
                      · obtain rfl := Option.some.inj (show some _ = some o from ho)
                        obtain ⟨rfl, rfl⟩ := Prod.mk.inj (Option.some.inj (show some (_, _) = some (d, v) from ht))
                        exact Or.inl ⟨want_some rfl rfl rfl (hdep ⟨25, .guard⟩ (by simp) rfl _ _ rfl), fun K hK => st_load 22 266 _ _ (hb _ (List.Mem.tail _ (List.Mem.tail _ (List.Mem.tail _ (List.Mem.tail _ (List.Mem.tail _ (List.Mem.head _))))))) hs.2 (hK x hs)⟩
                      · obtain rfl := Option.some.inj (show some _ = some o from ho)
                        obtain ⟨rfl, rfl⟩ := Prod.mk.inj (Option.some.inj (show some (_, _) = some (d, v) from ht))
                        exact Or.inl ⟨want_some rfl rfl rfl (hdep ⟨25, .guard⟩ (by simp) rfl _ _ rfl), fun K hK => st_load 9 267 _ _ (hb _ (List.Mem.tail _ (List.Mem.tail _ (List.Mem.tail _ (List.Mem.head _))))) hs.1.r9 (hK x hs)⟩
                      · obtain rfl := Option.some.inj (show some _ = some o from ho)
                        obtain ⟨rfl, rfl⟩ := Prod.mk.inj (Option.some.inj (show some (_, _) = some (d, v) from ht))
                        exact Or.inl ⟨want_some rfl rfl rfl (hdep ⟨25, .guard⟩ (by simp) rfl _ _ rfl), fun K hK => st_calc 6 265 266 267 268 _ _ _ _ (by decide) (by decide) (hdep ⟨34, .data⟩ (by simp) rfl _ _ rfl) (hdep ⟨35, .data⟩ (by simp) rfl _ _ rfl) (hdep ⟨36, .data⟩ (by simp) rfl _ _ rfl) Hv268 (fun x' hb' => hK x' ((⟨hs.1.call hb', row_below hs.2 hb'⟩)))⟩
                      · obtain rfl := Option.some.inj (show some _ = some o from ho)
                        obtain ⟨rfl, rfl⟩ := Prod.mk.inj (Option.some.inj (show some (_, _) = some (d, v) from ht))
                        exact Or.inl ⟨want_some rfl rfl rfl (hdep ⟨25, .guard⟩ (by simp) rfl _ _ rfl), fun K hK => st_load 22 269 _ _ (hb _ (List.Mem.tail _ (List.Mem.tail _ (List.Mem.tail _ (List.Mem.tail _ (List.Mem.tail _ (List.Mem.head _))))))) hs.2 (hK x hs)⟩
                      · obtain rfl := Option.some.inj (show some _ = some o from ho)
                        obtain ⟨rfl, rfl⟩ := Prod.mk.inj (Option.some.inj (show some (_, _) = some (d, v) from ht))
                        exact Or.inl ⟨want_some rfl rfl rfl (hdep ⟨25, .guard⟩ (by simp) rfl _ _ rfl), fun K hK => st_calc 9 264 268 269 270 _ _ _ _ (by decide) (by decide) (hdep ⟨33, .data⟩ (by simp) rfl _ _ rfl) (hdep ⟨37, .data⟩ (by simp) rfl _ _ rfl) (hdep ⟨38, .data⟩ (by simp) rfl _ _ rfl) Hv270 (fun x' hb' => hK x' ((⟨hs.1.call hb', row_below hs.2 hb'⟩)))⟩
                      · obtain rfl := Option.some.inj (show some _ = some o from ho)
                        obtain ⟨rfl, rfl⟩ := Prod.mk.inj (Option.some.inj (show some (_, _) = some (d, v) from ht))
                        exact Or.inl ⟨want_some rfl rfl rfl (hdep ⟨25, .guard⟩ (by simp) rfl _ _ rfl), fun K hK => st_eql 260 270 271 _ _ true (hdep ⟨29, .data⟩ (by simp) rfl _ _ rfl) (hdep ⟨39, .data⟩ (by simp) rfl _ _ rfl) E271 (hK x hs)⟩
                      · obtain rfl := Option.some.inj (show some _ = some o from ho)
                        obtain ⟨rfl, rfl⟩ := Prod.mk.inj (Option.some.inj (show some (_, _) = some (d, v) from ht))
                        exact Or.inl ⟨want_somef rfl rfl rfl (hdep ⟨9, .guard⟩ (by simp) rfl _ _ rfl), fun K hK => st_pick 256 271 272 (hdep ⟨25, .data⟩ (by simp) rfl _ _ rfl) (hdep ⟨40, .data⟩ (by simp) rfl _ _ rfl) (hK x hs)⟩
                      · obtain rfl := Option.some.inj (show some _ = some o from ho)
                        obtain ⟨rfl, rfl⟩ := Prod.mk.inj (Option.some.inj (show some (_, _) = some (d, v) from ht))
                        exact Or.inl ⟨want_some rfl rfl rfl (hdep ⟨6, .guard⟩ (by simp) rfl _ _ rfl), fun K hK => st_picke 240 272 273 (hdep ⟨9, .data⟩ (by simp) rfl _ _ rfl) (hdep ⟨41, .data⟩ (by simp) rfl _ _ rfl) (hK x hs)⟩
                      · obtain rfl := Option.some.inj (show some _ = some o from ho)
                        obtain ⟨rfl, rfl⟩ := Prod.mk.inj (Option.some.inj (show some (_, _) = some (d, v) from ht))
                        exact Or.inl ⟨want_none rfl, fun K hK => st_pick 237 273 274 (hdep ⟨6, .data⟩ (by simp) rfl _ _ rfl) (hdep ⟨42, .data⟩ (by simp) rfl _ _ rfl) (hK x hs)⟩
                      · obtain rfl := Option.some.inj (show some _ = some o from ho)
                        obtain ⟨rfl, rfl⟩ := Prod.mk.inj (Option.some.inj (show some (_, _) = some (d, v) from ht))
                        exact Or.inl ⟨want_none rfl, fun K hK => st_assign 274 23 _ (hdep ⟨43, .data⟩ (by simp) rfl _ _ rfl) (hK x hs)⟩
                    · intro x hs
                      as_aux_lemma =>
                      simp only [fill, List.foldl, Act.put, List.setIfInBounds_toArray, List.set_cons_zero, List.set_cons_succ]
                      go_wp2_with fail
                      go_meet
                      case rel => exact ⟨rfl, hs.1⟩
                case rest =>
                  as_aux_lemma =>
                  obtain ⟨rfl, hs⟩ := hcut
                  go_wp2
                  obtain ⟨v279, Hv279⟩ : ∃ v, Hid (v = fcalc 1 (k % M) (7 % M) (z % M)) := ⟨_, rfl⟩
                  have E283 : eqw v279 (k + 7) = true := k283 hk Hv279.out
                  obtain ⟨v289, Hv289⟩ : ∃ v, Hid (v = fcalc 2 (k % M) (9 % M) (z % M)) := ⟨_, rfl⟩
                  have E293 : eqw v289 (9 * k) = true := k293 hk Hv289.out
                  obtain ⟨v300, Hv300⟩ : ∃ v, Hid (v = fcalc 4 (k % M) (7 % M) (z % M)) := ⟨_, rfl⟩
                  have E304 : eqw v300 (k / 7) = true := k304 hk Hv300.out
                  obtain ⟨v311, Hv311⟩ : ∃ v, Hid (v = fcalc 6 (k % M) (7 % M) (z % M)) := ⟨_, rfl⟩
                  have E315 : eqw v311 (k % 7) = true := k315 hk Hv311.out
                  refine wp_region_table (by kernel_rfl) (RK w a b c z o p9 p10) [(275, .int .i64 (k : Int)), (276, wv k), (277, wv 7), (278, wv z), (279, wv v279), (280, .int .i64 (k : Int)), (281, .int .i64 ((k + 7 : Nat) : Int)), (282, wv (k + 7)), (283, .bool true), (284, .bool true), (285, .int .i64 (k : Int)), (286, wv k), (287, wv 9), (288, wv z), (289, wv v289), (290, .int .i64 (k : Int)), (291, .int .i64 ((9 * k : Nat) : Int)), (292, wv (9 * k)), (293, .bool true), (294, .bool true), (295, .bool true), (296, .int .i64 (k : Int)), (297, wv k), (298, wv 7), (299, wv z), (300, wv v300), (301, .int .i64 (k : Int)), (302, .int .i64 ((k / 7 : Nat) : Int)), (303, wv (k / 7)), (304, .bool true), (305, .bool true), (306, .bool true), (307, .int .i64 (k : Int)), (308, wv k), (309, wv 7), (310, wv z), (311, wv v311), (312, .int .i64 (k : Int)), (313, .int .i64 ((k % 7 : Nat) : Int)), (314, wv (k % 7)), (315, .bool true), (316, .bool true), (24, .bool true)] (by kernel_rfl) rfl (by kernel_rfl) (by kernel_rfl) hs.drew [(18, .int .i64 (k : Int)), (9, .pointer (some ⟨p9, 0, none⟩))] (by intro p hp; simp only [List.mem_cons, List.not_mem_nil, or_false] at hp; rcases hp with rfl | rfl <;> rfl) (by kernel_rfl) [] (fun p hp => by cases hp) ?_ ?_
                  · as_aux_lemma =>
                    intro i o d v ho ht s x hs hb hb2 hdep
                    have hi : i < 43 := (Array.getElem?_eq_some_iff.1 ho).1
                    rcases j43 hi with rfl | rfl | rfl | rfl | rfl | rfl | rfl | rfl | rfl | rfl | rfl | rfl | rfl | rfl | rfl | rfl | rfl | rfl | rfl | rfl | rfl | rfl | rfl | rfl | rfl | rfl | rfl | rfl | rfl | rfl | rfl | rfl | rfl | rfl | rfl | rfl | rfl | rfl | rfl | rfl | rfl | rfl | rfl
                    · obtain rfl := Option.some.inj (show some _ = some o from ho)
                      obtain ⟨rfl, rfl⟩ := Prod.mk.inj (Option.some.inj (show some (_, _) = some (d, v) from ht))
                      exact Or.inl ⟨want_none rfl, fun K hK => st_move 18 275 _ (hb _ (List.Mem.head _)) (hK x hs)⟩
                    · obtain rfl := Option.some.inj (show some _ = some o from ho)
                      obtain ⟨rfl, rfl⟩ := Prod.mk.inj (Option.some.inj (show some (_, _) = some (d, v) from ht))
                      exact Or.inl ⟨want_none rfl, fun K hK => st_small 275 276 k (hdep ⟨0, .data⟩ (by simp) rfl _ _ rfl) (by omega) (fun x' hb' => hK x' (hs.call hb'))⟩
                    · obtain rfl := Option.some.inj (show some _ = some o from ho)
                      obtain ⟨rfl, rfl⟩ := Prod.mk.inj (Option.some.inj (show some (_, _) = some (d, v) from ht))
                      exact Or.inl ⟨want_none rfl, fun K hK => st_small_c _ 277 7 rfl (by decide) (fun x' hb' => hK x' (hs.call hb'))⟩
                    · obtain rfl := Option.some.inj (show some _ = some o from ho)
                      obtain ⟨rfl, rfl⟩ := Prod.mk.inj (Option.some.inj (show some (_, _) = some (d, v) from ht))
                      exact Or.inl ⟨want_none rfl, fun K hK => st_load 9 278 _ _ (hb _ (List.Mem.tail _ (List.Mem.head _))) hs.r9 (hK x hs)⟩
                    · obtain rfl := Option.some.inj (show some _ = some o from ho)
                      obtain ⟨rfl, rfl⟩ := Prod.mk.inj (Option.some.inj (show some (_, _) = some (d, v) from ht))
                      exact Or.inl ⟨want_none rfl, fun K hK => st_calc 1 276 277 278 279 _ _ _ _ (by decide) (by decide) (hdep ⟨1, .data⟩ (by simp) rfl _ _ rfl) (hdep ⟨2, .data⟩ (by simp) rfl _ _ rfl) (hdep ⟨3, .data⟩ (by simp) rfl _ _ rfl) Hv279 (fun x' hb' => hK x' (hs.call hb'))⟩
                    · obtain rfl := Option.some.inj (show some _ = some o from ho)
                      obtain ⟨rfl, rfl⟩ := Prod.mk.inj (Option.some.inj (show some (_, _) = some (d, v) from ht))
                      exact Or.inl ⟨want_none rfl, fun K hK => st_move 18 280 _ (hb _ (List.Mem.head _)) (hK x hs)⟩
                    · obtain rfl := Option.some.inj (show some _ = some o from ho)
                      obtain ⟨rfl, rfl⟩ := Prod.mk.inj (Option.some.inj (show some (_, _) = some (d, v) from ht))
                      exact Or.inl ⟨want_none rfl, fun K hK => st_add1 280 281 k 7 hk (by decide) (hdep ⟨5, .data⟩ (by simp) rfl _ _ rfl) (hK x hs)⟩
                    · obtain rfl := Option.some.inj (show some _ = some o from ho)
                      obtain ⟨rfl, rfl⟩ := Prod.mk.inj (Option.some.inj (show some (_, _) = some (d, v) from ht))
                      exact Or.inl ⟨want_none rfl, fun K hK => st_small 281 282 (k + 7) (hdep ⟨6, .data⟩ (by simp) rfl _ _ rfl) (by omega) (fun x' hb' => hK x' (hs.call hb'))⟩
                    · obtain rfl := Option.some.inj (show some _ = some o from ho)
                      obtain ⟨rfl, rfl⟩ := Prod.mk.inj (Option.some.inj (show some (_, _) = some (d, v) from ht))
                      exact Or.inl ⟨want_none rfl, fun K hK => st_eql 279 282 283 _ _ true (hdep ⟨4, .data⟩ (by simp) rfl _ _ rfl) (hdep ⟨7, .data⟩ (by simp) rfl _ _ rfl) E283 (hK x hs)⟩
                    · obtain rfl := Option.some.inj (show some _ = some o from ho)
                      obtain ⟨rfl, rfl⟩ := Prod.mk.inj (Option.some.inj (show some (_, _) = some (d, v) from ht))
                      exact Or.inl ⟨want_none rfl, fun K hK => st_move 283 284 _ (hdep ⟨8, .data⟩ (by simp) rfl _ _ rfl) (hK x hs)⟩
                    · obtain rfl := Option.some.inj (show some _ = some o from ho)
                      obtain ⟨rfl, rfl⟩ := Prod.mk.inj (Option.some.inj (show some (_, _) = some (d, v) from ht))
                      exact Or.inl ⟨want_some rfl rfl rfl (hdep ⟨9, .guard⟩ (by simp) rfl _ _ rfl), fun K hK => st_move 18 285 _ (hb _ (List.Mem.head _)) (hK x hs)⟩
                    · obtain rfl := Option.some.inj (show some _ = some o from ho)
                      obtain ⟨rfl, rfl⟩ := Prod.mk.inj (Option.some.inj (show some (_, _) = some (d, v) from ht))
                      exact Or.inl ⟨want_some rfl rfl rfl (hdep ⟨9, .guard⟩ (by simp) rfl _ _ rfl), fun K hK => st_small 285 286 k (hdep ⟨10, .data⟩ (by simp) rfl _ _ rfl) (by omega) (fun x' hb' => hK x' (hs.call hb'))⟩
                    · obtain rfl := Option.some.inj (show some _ = some o from ho)
                      obtain ⟨rfl, rfl⟩ := Prod.mk.inj (Option.some.inj (show some (_, _) = some (d, v) from ht))
                      exact Or.inl ⟨want_some rfl rfl rfl (hdep ⟨9, .guard⟩ (by simp) rfl _ _ rfl), fun K hK => st_small_c _ 287 9 rfl (by decide) (fun x' hb' => hK x' (hs.call hb'))⟩
                    · obtain rfl := Option.some.inj (show some _ = some o from ho)
                      obtain ⟨rfl, rfl⟩ := Prod.mk.inj (Option.some.inj (show some (_, _) = some (d, v) from ht))
                      exact Or.inl ⟨want_some rfl rfl rfl (hdep ⟨9, .guard⟩ (by simp) rfl _ _ rfl), fun K hK => st_load 9 288 _ _ (hb _ (List.Mem.tail _ (List.Mem.head _))) hs.r9 (hK x hs)⟩
                    · obtain rfl := Option.some.inj (show some _ = some o from ho)
                      obtain ⟨rfl, rfl⟩ := Prod.mk.inj (Option.some.inj (show some (_, _) = some (d, v) from ht))
                      exact Or.inl ⟨want_some rfl rfl rfl (hdep ⟨9, .guard⟩ (by simp) rfl _ _ rfl), fun K hK => st_calc 2 286 287 288 289 _ _ _ _ (by decide) (by decide) (hdep ⟨11, .data⟩ (by simp) rfl _ _ rfl) (hdep ⟨12, .data⟩ (by simp) rfl _ _ rfl) (hdep ⟨13, .data⟩ (by simp) rfl _ _ rfl) Hv289 (fun x' hb' => hK x' (hs.call hb'))⟩
                    · obtain rfl := Option.some.inj (show some _ = some o from ho)
                      obtain ⟨rfl, rfl⟩ := Prod.mk.inj (Option.some.inj (show some (_, _) = some (d, v) from ht))
                      exact Or.inl ⟨want_some rfl rfl rfl (hdep ⟨9, .guard⟩ (by simp) rfl _ _ rfl), fun K hK => st_move 18 290 _ (hb _ (List.Mem.head _)) (hK x hs)⟩
                    · obtain rfl := Option.some.inj (show some _ = some o from ho)
                      obtain ⟨rfl, rfl⟩ := Prod.mk.inj (Option.some.inj (show some (_, _) = some (d, v) from ht))
                      exact Or.inl ⟨want_some rfl rfl rfl (hdep ⟨9, .guard⟩ (by simp) rfl _ _ rfl), fun K hK => st_mul1 290 291 k 9 hk (by decide) (hdep ⟨15, .data⟩ (by simp) rfl _ _ rfl) (hK x hs)⟩
                    · obtain rfl := Option.some.inj (show some _ = some o from ho)
                      obtain ⟨rfl, rfl⟩ := Prod.mk.inj (Option.some.inj (show some (_, _) = some (d, v) from ht))
                      exact Or.inl ⟨want_some rfl rfl rfl (hdep ⟨9, .guard⟩ (by simp) rfl _ _ rfl), fun K hK => st_small 291 292 (9 * k) (hdep ⟨16, .data⟩ (by simp) rfl _ _ rfl) (by omega) (fun x' hb' => hK x' (hs.call hb'))⟩
                    · obtain rfl := Option.some.inj (show some _ = some o from ho)
                      obtain ⟨rfl, rfl⟩ := Prod.mk.inj (Option.some.inj (show some (_, _) = some (d, v) from ht))
                      exact Or.inl ⟨want_some rfl rfl rfl (hdep ⟨9, .guard⟩ (by simp) rfl _ _ rfl), fun K hK => st_eql 289 292 293 _ _ true (hdep ⟨14, .data⟩ (by simp) rfl _ _ rfl) (hdep ⟨17, .data⟩ (by simp) rfl _ _ rfl) E293 (hK x hs)⟩
                    · obtain rfl := Option.some.inj (show some _ = some o from ho)
                      obtain ⟨rfl, rfl⟩ := Prod.mk.inj (Option.some.inj (show some (_, _) = some (d, v) from ht))
                      exact Or.inl ⟨want_none rfl, fun K hK => st_pick 284 293 294 (hdep ⟨9, .data⟩ (by simp) rfl _ _ rfl) (hdep ⟨18, .data⟩ (by simp) rfl _ _ rfl) (hK x hs)⟩
                    · obtain rfl := Option.some.inj (show some _ = some o from ho)
                      obtain ⟨rfl, rfl⟩ := Prod.mk.inj (Option.some.inj (show some (_, _) = some (d, v) from ht))
                      exact Or.inl ⟨want_none rfl, fun K hK => st_move 294 295 _ (hdep ⟨19, .data⟩ (by simp) rfl _ _ rfl) (hK x hs)⟩
                    · obtain rfl := Option.some.inj (show some _ = some o from ho)
                      obtain ⟨rfl, rfl⟩ := Prod.mk.inj (Option.some.inj (show some (_, _) = some (d, v) from ht))
                      exact Or.inl ⟨want_some rfl rfl rfl (hdep ⟨20, .guard⟩ (by simp) rfl _ _ rfl), fun K hK => st_move 18 296 _ (hb _ (List.Mem.head _)) (hK x hs)⟩
                    · obtain rfl := Option.some.inj (show some _ = some o from ho)
                      obtain ⟨rfl, rfl⟩ := Prod.mk.inj (Option.some.inj (show some (_, _) = some (d, v) from ht))
                      exact Or.inl ⟨want_some rfl rfl rfl (hdep ⟨20, .guard⟩ (by simp) rfl _ _ rfl), fun K hK => st_small 296 297 k (hdep ⟨21, .data⟩ (by simp) rfl _ _ rfl) (by omega) (fun x' hb' => hK x' (hs.call hb'))⟩
                    · obtain rfl := Option.some.inj (show some _ = some o from ho)
                      obtain ⟨rfl, rfl⟩ := Prod.mk.inj (Option.some.inj (show some (_, _) = some (d, v) from ht))
                      exact Or.inl ⟨want_some rfl rfl rfl (hdep ⟨20, .guard⟩ (by simp) rfl _ _ rfl), fun K hK => st_small_c _ 298 7 rfl (by decide) (fun x' hb' => hK x' (hs.call hb'))⟩
                    · obtain rfl := Option.some.inj (show some _ = some o from ho)
                      obtain ⟨rfl, rfl⟩ := Prod.mk.inj (Option.some.inj (show some (_, _) = some (d, v) from ht))
                      exact Or.inl ⟨want_some rfl rfl rfl (hdep ⟨20, .guard⟩ (by simp) rfl _ _ rfl), fun K hK => st_load 9 299 _ _ (hb _ (List.Mem.tail _ (List.Mem.head _))) hs.r9 (hK x hs)⟩
                    · obtain rfl := Option.some.inj (show some _ = some o from ho)
                      obtain ⟨rfl, rfl⟩ := Prod.mk.inj (Option.some.inj (show some (_, _) = some (d, v) from ht))
                      exact Or.inl ⟨want_some rfl rfl rfl (hdep ⟨20, .guard⟩ (by simp) rfl _ _ rfl), fun K hK => st_calc 4 297 298 299 300 _ _ _ _ (by decide) (by decide) (hdep ⟨22, .data⟩ (by simp) rfl _ _ rfl) (hdep ⟨23, .data⟩ (by simp) rfl _ _ rfl) (hdep ⟨24, .data⟩ (by simp) rfl _ _ rfl) Hv300 (fun x' hb' => hK x' (hs.call hb'))⟩
                    · obtain rfl := Option.some.inj (show some _ = some o from ho)
                      obtain ⟨rfl, rfl⟩ := Prod.mk.inj (Option.some.inj (show some (_, _) = some (d, v) from ht))
                      exact Or.inl ⟨want_some rfl rfl rfl (hdep ⟨20, .guard⟩ (by simp) rfl _ _ rfl), fun K hK => st_move 18 301 _ (hb _ (List.Mem.head _)) (hK x hs)⟩
                    · obtain rfl := Option.some.inj (show some _ = some o from ho)
                      obtain ⟨rfl, rfl⟩ := Prod.mk.inj (Option.some.inj (show some (_, _) = some (d, v) from ht))
                      exact Or.inl ⟨want_some rfl rfl rfl (hdep ⟨20, .guard⟩ (by simp) rfl _ _ rfl), fun K hK => st_quo7 301 302 k hk (hdep ⟨26, .data⟩ (by simp) rfl _ _ rfl) (hK x hs)⟩
                    · obtain rfl := Option.some.inj (show some _ = some o from ho)
                      obtain ⟨rfl, rfl⟩ := Prod.mk.inj (Option.some.inj (show some (_, _) = some (d, v) from ht))
                      exact Or.inl ⟨want_some rfl rfl rfl (hdep ⟨20, .guard⟩ (by simp) rfl _ _ rfl), fun K hK => st_small 302 303 (k / 7) (hdep ⟨27, .data⟩ (by simp) rfl _ _ rfl) (by omega) (fun x' hb' => hK x' (hs.call hb'))⟩
                    · obtain rfl := Option.some.inj (show some _ = some o from ho)
                      obtain ⟨rfl, rfl⟩ := Prod.mk.inj (Option.some.inj (show some (_, _) = some (d, v) from ht))
                      exact Or.inl ⟨want_some rfl rfl rfl (hdep ⟨20, .guard⟩ (by simp) rfl _ _ rfl), fun K hK => st_eql 300 303 304 _ _ true (hdep ⟨25, .data⟩ (by simp) rfl _ _ rfl) (hdep ⟨28, .data⟩ (by simp) rfl _ _ rfl) E304 (hK x hs)⟩
                    · obtain rfl := Option.some.inj (show some _ = some o from ho)
                      obtain ⟨rfl, rfl⟩ := Prod.mk.inj (Option.some.inj (show some (_, _) = some (d, v) from ht))
                      exact Or.inl ⟨want_none rfl, fun K hK => st_pick 295 304 305 (hdep ⟨20, .data⟩ (by simp) rfl _ _ rfl) (hdep ⟨29, .data⟩ (by simp) rfl _ _ rfl) (hK x hs)⟩
                    · obtain rfl := Option.some.inj (show some _ = some o from ho)
                      obtain ⟨rfl, rfl⟩ := Prod.mk.inj (Option.some.inj (show some (_, _) = some (d, v) from ht))
                      exact Or.inl ⟨want_none rfl, fun K hK => st_move 305 306 _ (hdep ⟨30, .data⟩ (by simp) rfl _ _ rfl) (hK x hs)⟩
                    · obtain rfl := Option.some.inj (show some _ = some o from ho)
                      obtain ⟨rfl, rfl⟩ := Prod.mk.inj (Option.some.inj (show some (_, _) = some (d, v) from ht))
                      exact Or.inl ⟨want_some rfl rfl rfl (hdep ⟨31, .guard⟩ (by simp) rfl _ _ rfl), fun K hK => st_move 18 307 _ (hb _ (List.Mem.head _)) (hK x hs)⟩
                    · obtain rfl := Option.some.inj (show some _ = some o from ho)
                      obtain ⟨rfl, rfl⟩ := Prod.mk.inj (Option.some.inj (show some (_, _) = some (d, v) from ht))
                      exact Or.inl ⟨want_some rfl rfl rfl (hdep ⟨31, .guard⟩ (by simp) rfl _ _ rfl), fun K hK => st_small 307 308 k (hdep ⟨32, .data⟩ (by simp) rfl _ _ rfl) (by omega) (fun x' hb' => hK x' (hs.call hb'))⟩
                    · obtain rfl := Option.some.inj (show some _ = some o from ho)
                      obtain ⟨rfl, rfl⟩ := Prod.mk.inj (Option.some.inj (show some (_, _) = some (d, v) from ht))
                      exact Or.inl ⟨want_some rfl rfl rfl (hdep ⟨31, .guard⟩ (by simp) rfl _ _ rfl), fun K hK => st_small_c _ 309 7 rfl (by decide) (fun x' hb' => hK x' (hs.call hb'))⟩
                    · obtain rfl := Option.some.inj (show some _ = some o from ho)
                      obtain ⟨rfl, rfl⟩ := Prod.mk.inj (Option.some.inj (show some (_, _) = some (d, v) from ht))
                      exact Or.inl ⟨want_some rfl rfl rfl (hdep ⟨31, .guard⟩ (by simp) rfl _ _ rfl), fun K hK => st_load 9 310 _ _ (hb _ (List.Mem.tail _ (List.Mem.head _))) hs.r9 (hK x hs)⟩
                    · obtain rfl := Option.some.inj (show some _ = some o from ho)
                      obtain ⟨rfl, rfl⟩ := Prod.mk.inj (Option.some.inj (show some (_, _) = some (d, v) from ht))
                      exact Or.inl ⟨want_some rfl rfl rfl (hdep ⟨31, .guard⟩ (by simp) rfl _ _ rfl), fun K hK => st_calc 6 308 309 310 311 _ _ _ _ (by decide) (by decide) (hdep ⟨33, .data⟩ (by simp) rfl _ _ rfl) (hdep ⟨34, .data⟩ (by simp) rfl _ _ rfl) (hdep ⟨35, .data⟩ (by simp) rfl _ _ rfl) Hv311 (fun x' hb' => hK x' (hs.call hb'))⟩
                    · obtain rfl := Option.some.inj (show some _ = some o from ho)
                      obtain ⟨rfl, rfl⟩ := Prod.mk.inj (Option.some.inj (show some (_, _) = some (d, v) from ht))
                      exact Or.inl ⟨want_some rfl rfl rfl (hdep ⟨31, .guard⟩ (by simp) rfl _ _ rfl), fun K hK => st_move 18 312 _ (hb _ (List.Mem.head _)) (hK x hs)⟩
                    · obtain rfl := Option.some.inj (show some _ = some o from ho)
                      obtain ⟨rfl, rfl⟩ := Prod.mk.inj (Option.some.inj (show some (_, _) = some (d, v) from ht))
                      exact Or.inl ⟨want_some rfl rfl rfl (hdep ⟨31, .guard⟩ (by simp) rfl _ _ rfl), fun K hK => st_rem7 312 313 k hk (hdep ⟨37, .data⟩ (by simp) rfl _ _ rfl) (hK x hs)⟩
                    · obtain rfl := Option.some.inj (show some _ = some o from ho)
                      obtain ⟨rfl, rfl⟩ := Prod.mk.inj (Option.some.inj (show some (_, _) = some (d, v) from ht))
                      exact Or.inl ⟨want_some rfl rfl rfl (hdep ⟨31, .guard⟩ (by simp) rfl _ _ rfl), fun K hK => st_small 313 314 (k % 7) (hdep ⟨38, .data⟩ (by simp) rfl _ _ rfl) (by omega) (fun x' hb' => hK x' (hs.call hb'))⟩
                    · obtain rfl := Option.some.inj (show some _ = some o from ho)
                      obtain ⟨rfl, rfl⟩ := Prod.mk.inj (Option.some.inj (show some (_, _) = some (d, v) from ht))
                      exact Or.inl ⟨want_some rfl rfl rfl (hdep ⟨31, .guard⟩ (by simp) rfl _ _ rfl), fun K hK => st_eql 311 314 315 _ _ true (hdep ⟨36, .data⟩ (by simp) rfl _ _ rfl) (hdep ⟨39, .data⟩ (by simp) rfl _ _ rfl) E315 (hK x hs)⟩
                    · obtain rfl := Option.some.inj (show some _ = some o from ho)
                      obtain ⟨rfl, rfl⟩ := Prod.mk.inj (Option.some.inj (show some (_, _) = some (d, v) from ht))
                      exact Or.inl ⟨want_none rfl, fun K hK => st_pick 306 315 316 (hdep ⟨31, .data⟩ (by simp) rfl _ _ rfl) (hdep ⟨40, .data⟩ (by simp) rfl _ _ rfl) (hK x hs)⟩
                    · obtain rfl := Option.some.inj (show some _ = some o from ho)
                      obtain ⟨rfl, rfl⟩ := Prod.mk.inj (Option.some.inj (show some (_, _) = some (d, v) from ht))
                      exact Or.inl ⟨want_none rfl, fun K hK => st_assign 316 24 _ (hdep ⟨41, .data⟩ (by simp) rfl _ _ rfl) (hK x hs)⟩
                  · intro x hs
                    as_aux_lemma =>
                    simp only [fill, List.foldl, Act.put, List.setIfInBounds_toArray, List.set_cons_zero, List.set_cons_succ]
                    go_wp2_with fail
                    exact bodyPost_ret (v := .bool true) (by simp [results, Try.results4, go_sem]) rfl ⟨rfl, hs.be⟩
end cin
end Go.Proofs.Ytohoajjdoihekaa
