/-
  The walks of the document's answer: sums, differences.
-/
import Derived.Test.YtohoajjdoihekaaSt4
set_option linter.unusedVariables false
set_option linter.unusedSimpArgs false
namespace Go.Proofs.Ytohoajjdoihekaa
open Go.RowKit
namespace cin
theorem p5 {i : Nat} (h : i < 5) : i = 0 ∨ i = 1 ∨ i = 2 ∨ i = 3 ∨ i = 4 := by omega
theorem len5 {vs : List Value} (h : vs.length = 5) : ∃ v0 v1 v2 v3 v4 : Value, vs = [v0, v1, v2, v3, v4] := by
  match vs, h with
  | [v0, v1, v2, v3, v4], _ => exact ⟨v0, v1, v2, v3, v4, rfl⟩
theorem p6 {i : Nat} (h : i < 6) : i = 0 ∨ i = 1 ∨ i = 2 ∨ i = 3 ∨ i = 4 ∨ i = 5 := by omega
theorem len6 {vs : List Value} (h : vs.length = 6) : ∃ v0 v1 v2 v3 v4 v5 : Value, vs = [v0, v1, v2, v3, v4, v5] := by
  match vs, h with
  | [v0, v1, v2, v3, v4, v5], _ => exact ⟨v0, v1, v2, v3, v4, v5, rfl⟩
theorem lt256 {a : Nat} (h : a < M) : Hid (a < 2 ^ 256) := by show _ < _; rw [← M_pow]; exact h
theorem hi_var (r n p : Nat) (hp : p = 2 ^ n) (h : r < p + p) (j : Nat) (hj : n + 1 ≤ j) : r.testBit j = false := by
  refine tb_high (L := n + 1) ?_ hj
  rw [Nat.pow_succ, ← hp]; omega
theorem hi257 {r a b : Nat} (hr : r = a + b) (ha : a < M) (hb : b < M) : Hid (∀ j, 257 ≤ j → r.testBit j = false) :=
  fun _ hj => hi_var r 256 M M_pow (by omega) _ (by omega)
theorem hi256 {r : Nat} (h : r < M) : Hid (∀ j, 256 ≤ j → r.testBit j = false) := fun _ hj => tb_high (lt256 h).out hj
theorem radd_any0 (a b : Nat) (ha : Hid (a < M)) (hb : Hid (b < M)) (w : World) : Calls Try.prog 15 #[wv a, wv b] w (Ret w (fadd a b)) := by
  have hs := SS.start w a b
  go_enter Try.func15, Try.ntmps15
  go_wp2
  have hb0 := hb
  clear hb
  refine wp_region_pred (by kernel_rfl) (SS w a b) (fun _ x x' => Below x.heap.size x x') [(some 6, fun v _ => v = wv a), (some 7, fun v x => SliceOf 256 a v x), (some 8, fun v _ => v = wv b), (some 9, fun v x => SliceOf 256 b v x), (some 10, fun v x => SliceOf 257 (a + b) v x), (some 5, fun v x => SliceOf 257 (a + b) v x)] (by kernel_rfl) rfl (by kernel_rfl) (by kernel_rfl) hs.drew [(2, .pointer (some ⟨w.heap.size, 0, none⟩)), (3, .pointer (some ⟨w.heap.size + 1, 0, none⟩))] (by intro p hp; simp only [List.mem_cons, List.not_mem_nil, or_false] at hp; rcases hp with rfl | rfl <;> rfl) (by kernel_rfl) ?_ ?_ ?_
  · as_aux_lemma =>
    intro i j d T h hij v x x' hs hr ht
    have hj : j < 6 := (List.getElem?_eq_some_iff.1 h).1
    rcases p6 hj with rfl | rfl | rfl | rfl | rfl | rfl <;> obtain ⟨rfl, rfl⟩ := Prod.mk.inj (Option.some.inj (show some (_, _) = some (d, T) from h)) <;> (first | exact ht | exact ht.below hr)
  · as_aux_lemma =>
    intro i o d T ho ht s x hs hb hdep
    have hi : i < 6 := (Array.getElem?_eq_some_iff.1 ho).1
    rcases p6 hi with rfl | rfl | rfl | rfl | rfl | rfl
    · obtain rfl := Option.some.inj (show some _ = some o from ho)
      obtain ⟨rfl, rfl⟩ := Prod.mk.inj (Option.some.inj (show some (_, _) = some (d, T) from ht))
      exact ⟨want_none rfl, fun K hK => st_load 2 6 _ _ (hb _ (List.Mem.head _)) hs.ra (hK _ x hs (Below.refl _ _) (fun h => by cases h) rfl)⟩
    · obtain rfl := Option.some.inj (show some _ = some o from ho)
      obtain ⟨rfl, rfl⟩ := Prod.mk.inj (Option.some.inj (show some (_, _) = some (d, T) from ht))
      exact ⟨want_none rfl, fun K hK => st_bitsOf 6 7 a (hdep ⟨0, .data⟩ (by simp) rfl _ _ rfl) (fun v x' h1 h2 => hK v x' (hs.call h1) h1 (fun h => by cases h) h2)⟩
    · obtain rfl := Option.some.inj (show some _ = some o from ho)
      obtain ⟨rfl, rfl⟩ := Prod.mk.inj (Option.some.inj (show some (_, _) = some (d, T) from ht))
      exact ⟨want_none rfl, fun K hK => st_load 3 8 _ _ (hb _ (List.Mem.tail _ (List.Mem.head _))) hs.rb (hK _ x hs (Below.refl _ _) (fun h => by cases h) rfl)⟩
    · obtain rfl := Option.some.inj (show some _ = some o from ho)
      obtain ⟨rfl, rfl⟩ := Prod.mk.inj (Option.some.inj (show some (_, _) = some (d, T) from ht))
      exact ⟨want_none rfl, fun K hK => st_bitsOf 8 9 b (hdep ⟨2, .data⟩ (by simp) rfl _ _ rfl) (fun v x' h1 h2 => hK v x' (hs.call h1) h1 (fun h => by cases h) h2)⟩
    · obtain rfl := Option.some.inj (show some _ = some o from ho)
      obtain ⟨rfl, rfl⟩ := Prod.mk.inj (Option.some.inj (show some (_, _) = some (d, T) from ht))
      exact ⟨want_none rfl, fun K hK => st_addb 7 9 10 a b (lt256 ha.out) (lt256 hb0.out) (hdep ⟨1, .data⟩ (by simp) rfl _ _ rfl) (hdep ⟨3, .data⟩ (by simp) rfl _ _ rfl) (fun v x' h1 h2 => hK v x' (hs.call h1) h1 (fun h => by cases h) h2)⟩
    · obtain rfl := Option.some.inj (show some _ = some o from ho)
      obtain ⟨rfl, rfl⟩ := Prod.mk.inj (Option.some.inj (show some (_, _) = some (d, T) from ht))
      exact ⟨want_none rfl, fun K hK => st_assign 10 5 _ rfl (hK _ x hs (Below.refl _ _) (fun h => by cases h) (hdep ⟨4, .data⟩ (by simp) rfl _ _ rfl))⟩
  · intro vs x hs hl hT
    obtain ⟨v0, v1, v2, v3, v4, v5, rfl⟩ := len6 hl
    have h0 : (fun v _ => v = wv a) v0 x := hT 0 _ _ rfl
    have h1 : (fun v x => SliceOf 256 a v x) v1 x := hT 1 _ _ rfl
    have h2 : (fun v _ => v = wv b) v2 x := hT 2 _ _ rfl
    have h3 : (fun v x => SliceOf 256 b v x) v3 x := hT 3 _ _ rfl
    have h4 : (fun v x => SliceOf 257 (a + b) v x) v4 x := hT 4 _ _ rfl
    have h5 : (fun v x => SliceOf 257 (a + b) v x) v5 x := hT 5 _ _ rfl
    clear hl hT
    simp only [zipo, fill, List.foldl, Act.put, List.setIfInBounds_toArray, List.set_cons_zero, List.set_cons_succ]
    obtain ⟨p, r, c, HR, rfl, hrow⟩ := h5
    clear h0 h1 h2 h3 h4
    go_wp2_with fail
    refine (wordOf_any r 257 p c (by omega) (hi257 HR.out ha.out hb0.out) _ hrow).mono ?_
    rintro e w1 ⟨rfl, hb⟩
    replace hs := hs.call hb
    clear hb
    have hrz := hs.rz
    have hbel := hs.be
    obtain ⟨x0, x1, x2, x3⟩ := row_cells4 hrz
    have fz := hrz.frozen
    go_wp2
    obtain ⟨q0, q1, q2, q3⟩ := row_cells4 (row_put4 hrz (limb r) rfl rfl rfl rfl)
    refine bodyPost_ret (v := wv r) (by simp [results, Try.results15, go_sem, q0, q1, q2, q3]) rfl (ret_mk (by rw [HR.out]; unfold fadd; rw [Nat.mod_mod]) ?_)
    exact below_put4 hbel (by omega) _ _ _ _
theorem radd_any (a b : Nat) (w : World) : Calls Try.prog 15 #[wv a, wv b] w (Ret w (fadd (a % M) (b % M))) := by
  rw [← wv_mod a, ← wv_mod b]
  exact radd_any0 _ _ (Nat.mod_lt _ Mpos) (Nat.mod_lt _ Mpos) w
structure S1 (w : World) (a : Nat) (x : World) : Prop where
  ra : x.rowIs w.heap.size 24 4 (u64s (limb a))
  rz : x.rowIs (w.heap.size + 1) 24 4 (u64s fun _ => 0)
  be : Below w.heap.size w x
theorem S1.call {w : World} {a : Nat} {x y : World} (h : S1 w a x) (hb : Below x.heap.size x y) : S1 w a y := ⟨row_below h.ra hb, row_below h.rz hb, bcall h.be hb⟩
theorem S1.start (w : World) (a : Nat) : S1 w a ((w.alloc (.cells #[.int .u64 (limb a 0), .int .u64 (limb a 1), .int .u64 (limb a 2), .int .u64 (limb a 3)] 24)).alloc (.cells #[.int .u64 0, .int .u64 0, .int .u64 0, .int .u64 0] 24)) :=
  ⟨row_lit4 (limb a) rfl rfl rfl rfl rfl |>.alloc _, row_lit4 (fun _ => 0) (by simp) rfl rfl rfl rfl, bal (bal (Below.refl _ _) _) _⟩
theorem not_bits (a j : Nat) (ha : a < M) (hj : j < 256) : (!a.testBit j) = (M - 1 - a).testBit j := by
  rw [M_pow] at *
  rw [show 2 ^ 256 - 1 - a = 2 ^ 256 - (a + 1) by omega, Nat.testBit_two_pow_sub_succ ha, decide_eq_true hj, Bool.true_and]
theorem neg_num (a : Nat) (ha : a < M) : fadd ((M - 1 - a) % M) (1 % M) = fneg a := by
  unfold fadd fneg M at *
  omega
theorem rneg_any0 (a : Nat) (ha : Hid (a < M)) (w : World) : Calls Try.prog 50 #[wv a] w (Ret w (fneg a)) := by
  have hs := S1.start w a
  go_enter Try.func50, Try.ntmps50
  go_wp2_with fail
  refine (bitsOf_any a _).mono ?_
  rintro e w1 ⟨p, rfl, hp, hr, hb⟩
  replace hs := hs.call hb
  clear hb
  go_wp2_with fail
  refine (notb_any a p 256 _ hr).mono ?_
  rintro e w2 ⟨p2, rfl, hp2, hr2, hb⟩
  replace hs := hs.call hb
  clear hb hr hp hp2
  obtain ⟨r, HR⟩ : ∃ r, Hid (r = M - 1 - a) := ⟨_, rfl⟩
  replace hr2 : w2.rowIs p2 4 256 (bools r.testBit) := hr2.congr fun j hj => by simp only [bools]; rw [HR.out, not_bits a j ha.out hj]
  go_wp2_with fail
  refine (wordOf_any r 256 p2 256 (by omega) (hi256 (by rw [HR.out]; have := ha.out; omega)) _ hr2).mono ?_
  rintro e w3 ⟨rfl, hb⟩
  replace hs := hs.call hb
  clear hb hr2
  go_wp2_with fail
  refine (rsmall_any 1 (by omega) _).mono ?_
  rintro e w4 ⟨o, HO, rfl, hb⟩
  replace hs := hs.call hb
  clear hb
  go_wp2_with fail
  refine (radd_any r o _).mono ?_
  rintro e w5 ⟨s, HS, rfl, hb⟩
  replace hs := hs.call hb
  clear hb
  have hrz := hs.rz
  have hbel := hs.be
  obtain ⟨x0, x1, x2, x3⟩ := row_cells4 hrz
  have fz := hrz.frozen
  go_wp2
  obtain ⟨q0, q1, q2, q3⟩ := row_cells4 (row_put4 hrz (limb s) rfl rfl rfl rfl)
  refine bodyPost_ret (v := wv s) (by simp [results, Try.results50, go_sem, q0, q1, q2, q3]) rfl (ret_mk (by rw [HS.out, HR.out, HO.out, neg_num a ha.out]) ?_)
  exact below_put4 hbel (by omega) _ _ _ _
theorem rneg_any (a : Nat) (w : World) : Calls Try.prog 50 #[wv a] w (Ret w (fneg (a % M))) := by
  rw [← wv_mod a]
  exact rneg_any0 _ (Nat.mod_lt _ Mpos) w
structure Q2 (w : World) (a b : Nat) (x : World) : Prop where
  ra : x.rowIs w.heap.size 24 4 (u64s (limb a))
  rb : x.rowIs (w.heap.size + 1) 24 4 (u64s (limb b))
  rz : ∃ f, x.rowIs (w.heap.size + 1 + 1) 24 4 f
  be : Below w.heap.size w x
theorem Q2.call {w : World} {a b : Nat} {x y : World} (h : Q2 w a b x) (hb : Below x.heap.size x y) : Q2 w a b y := ⟨row_below h.ra hb, row_below h.rb hb, h.rz.elim fun f h => ⟨f, row_below h hb⟩, bcall h.be hb⟩
theorem Q2.put {w : World} {a b : Nat} {x : World} (h : Q2 w a b x) (r : Nat) {x' : World} (hr : x'.rowIs (w.heap.size + 1 + 1) 24 4 (u64s (limb r))) (e : x' = (((x.setCell ⟨w.heap.size + 1 + 1, 0, none⟩ (.int .u64 (limb r 0))).setCell ⟨w.heap.size + 1 + 1, 1, none⟩ (.int .u64 (limb r 1))).setCell ⟨w.heap.size + 1 + 1, 2, none⟩ (.int .u64 (limb r 2))).setCell ⟨w.heap.size + 1 + 1, 3, none⟩ (.int .u64 (limb r 3))) : Q2 w a b x' := by
  refine ⟨?_, ?_, ⟨_, hr⟩, ?_⟩
  · subst e; exact (((h.ra.setOther (by simp; omega) _).setOther (by simp; omega) _).setOther (by simp; omega) _).setOther (by simp; omega) _
  · subst e; exact (((h.rb.setOther (by simp) _).setOther (by simp) _).setOther (by simp) _).setOther (by simp) _
  · subst e; exact below_put4 h.be (by omega) _ _ _ _
theorem SS.two {w : World} {a b : Nat} {x : World} (h : SS w a b x) : Q2 w a b x.drew := ⟨h.ra, h.rb, ⟨_, h.rz⟩, h.be.drew⟩
theorem sub_num (a b : Nat) : fadd (a % M) (fneg (b % M) % M) = fsub (a % M) (b % M) := by
  unfold fadd fneg fsub
  rw [Nat.mod_mod, Nat.add_mod_mod]
theorem rsub_any (a b : Nat) (w : World) : Calls Try.prog 18 #[wv a, wv b] w (Ret w (fsub (a % M) (b % M))) := by
  have hs := SS.start w a b
  obtain ⟨m, HM⟩ : ∃ m, Hid (m = fneg (b % M)) := ⟨_, rfl⟩
  obtain ⟨r, HR⟩ : ∃ r, Hid (r = fadd (a % M) (m % M)) := ⟨_, rfl⟩
  go_enter Try.func18, Try.ntmps18
  go_wp2
  refine wp_region_pred (by kernel_rfl) (Q2 w a b) (fun i x x' => if i = 4 then True else Below x.heap.size x x') [(some 5, fun v _ => v = wv a), (some 6, fun v _ => v = wv b), (some 7, fun v _ => v = wv m), (some 8, fun v _ => v = wv r), (none, fun _ x => x.rowIs (w.heap.size + 1 + 1) 24 4 (u64s (limb r)))] (by kernel_rfl) rfl (by kernel_rfl) (by kernel_rfl) hs.two [(2, .pointer (some ⟨w.heap.size, 0, none⟩)), (3, .pointer (some ⟨w.heap.size + 1, 0, none⟩)), (4, .pointer (some ⟨w.heap.size + 1 + 1, 0, none⟩))] (by intro p hp; simp only [List.mem_cons, List.not_mem_nil, or_false] at hp; rcases hp with rfl | rfl | rfl <;> rfl) (by kernel_rfl) ?_ ?_ ?_
  · as_aux_lemma =>
    intro i j d T h hij v x x' hs hr ht
    have hj : j < 5 := (List.getElem?_eq_some_iff.1 h).1
    rcases p5 hj with rfl | rfl | rfl | rfl | rfl <;> obtain ⟨rfl, rfl⟩ := Prod.mk.inj (Option.some.inj (show some (_, _) = some (d, T) from h)) <;> (first | exact ht | (rw [if_neg hij] at hr; exact row_below ht hr))
  · as_aux_lemma =>
    intro i o d T ho ht s x hs hb hdep
    have hi : i < 5 := (Array.getElem?_eq_some_iff.1 ho).1
    rcases p5 hi with rfl | rfl | rfl | rfl | rfl
    · obtain rfl := Option.some.inj (show some _ = some o from ho)
      obtain ⟨rfl, rfl⟩ := Prod.mk.inj (Option.some.inj (show some (_, _) = some (d, T) from ht))
      exact ⟨want_none rfl, fun K hK => st_load 2 5 _ _ (hb _ (List.Mem.head _)) hs.ra (hK _ x hs (Below.refl _ _) (fun h => by cases h) rfl)⟩
    · obtain rfl := Option.some.inj (show some _ = some o from ho)
      obtain ⟨rfl, rfl⟩ := Prod.mk.inj (Option.some.inj (show some (_, _) = some (d, T) from ht))
      exact ⟨want_none rfl, fun K hK => st_load 3 6 _ _ (hb _ (List.Mem.tail _ (List.Mem.head _))) hs.rb (hK _ x hs (Below.refl _ _) (fun h => by cases h) rfl)⟩
    · obtain rfl := Option.some.inj (show some _ = some o from ho)
      obtain ⟨rfl, rfl⟩ := Prod.mk.inj (Option.some.inj (show some (_, _) = some (d, T) from ht))
      exact ⟨want_none rfl, fun K hK => st_ret own_Neg (ev1 (hdep ⟨1, .data⟩ (by simp) rfl _ _ rfl)) (rneg_any b x) HM (fun x' h1 => hK _ x' (hs.call h1) h1 (fun h => by cases h) rfl)⟩
    · obtain rfl := Option.some.inj (show some _ = some o from ho)
      obtain ⟨rfl, rfl⟩ := Prod.mk.inj (Option.some.inj (show some (_, _) = some (d, T) from ht))
      exact ⟨want_none rfl, fun K hK => st_ret own_Add (ev2 (hdep ⟨0, .data⟩ (by simp) rfl _ _ rfl) (hdep ⟨2, .data⟩ (by simp) rfl _ _ rfl)) (radd_any a m x) HR (fun x' h1 => hK _ x' (hs.call h1) h1 (fun h => by cases h) rfl)⟩
    · obtain rfl := Option.some.inj (show some _ = some o from ho)
      obtain ⟨rfl, rfl⟩ := Prod.mk.inj (Option.some.inj (show some (_, _) = some (d, T) from ht))
      exact ⟨want_none rfl, fun K hK => hs.rz.elim fun f hf => st_storew (hb _ (List.Mem.tail _ (List.Mem.tail _ (List.Mem.head _)))) (hdep ⟨3, .data⟩ (by simp) rfl _ _ rfl) hf fun x' h1 h2 => hK undef x' (hs.put r h1 h2) trivial (fun _ => rfl) h1⟩
  · intro vs x hs hl hT
    obtain ⟨v0, v1, v2, v3, v4, rfl⟩ := len5 hl
    have h0 : (fun v _ => v = wv a) v0 x := hT 0 _ _ rfl
    have h1 : (fun v _ => v = wv b) v1 x := hT 1 _ _ rfl
    have h2 : (fun v _ => v = wv m) v2 x := hT 2 _ _ rfl
    have h3 : (fun v _ => v = wv r) v3 x := hT 3 _ _ rfl
    have h4 : (fun _ x => x.rowIs (w.heap.size + 1 + 1) 24 4 (u64s (limb r))) v4 x := hT 4 _ _ rfl
    clear hl hT
    simp only [zipo, fill, List.foldl, Act.put, List.setIfInBounds_toArray, List.set_cons_zero, List.set_cons_succ]
    obtain ⟨q0, q1, q2, q3⟩ := row_cells4 h4
    subst h0 h1 h2 h3
    go_wp2
    exact bodyPost_ret (v := wv r) (by simp [results, Try.results18, go_sem, q0, q1, q2, q3]) rfl (ret_mk (by rw [HR.out, HM.out, sub_num]) hs.be)
end cin
end Go.Proofs.Ytohoajjdoihekaa
