/-
  The walk of the document's answer: Calc, signed comparisons.
-/
import Derived.Test.YtohoajjdoihekaaSt5
set_option linter.unusedVariables false
set_option linter.unusedSimpArgs false
namespace Go.Proofs.Ytohoajjdoihekaa
open Go.RowKit
namespace cin
theorem p10 {i : Nat} (h : i < 10) : i = 0 ∨ i = 1 ∨ i = 2 ∨ i = 3 ∨ i = 4 ∨ i = 5 ∨ i = 6 ∨ i = 7 ∨ i = 8 ∨ i = 9 := by omega
theorem len10 {vs : List Value} (h : vs.length = 10) : ∃ v0 v1 v2 v3 v4 v5 v6 v7 v8 v9 : Value, vs = [v0, v1, v2, v3, v4, v5, v6, v7, v8, v9] := by
  match vs, h with
  | [v0, v1, v2, v3, v4, v5, v6, v7, v8, v9], _ => exact ⟨v0, v1, v2, v3, v4, v5, v6, v7, v8, v9, rfl⟩
structure RT (w : World) (a b c T : Nat) (x : World) : Prop where
  ra : x.rowIs (w.heap.size) 24 4 (u64s (limb a))
  rb : x.rowIs (w.heap.size + 1) 24 4 (u64s (limb b))
  rz : ∃ f, x.rowIs (w.heap.size + 1 + 1 + 1) 24 4 f
  rt : x.rowIs T 24 4 (u64s (limb 57896044618658097711785492504343953926634992332820282019728792003956564819968))
  hT : w.heap.size + 1 + 1 + 1 < T
  be : Below w.heap.size w x
theorem RT.call {w : World} {a b c T : Nat} {x y : World} (h : RT w a b c T x) (hb : Below x.heap.size x y) : RT w a b c T y := ⟨row_below h.ra hb, row_below h.rb hb, h.rz.elim fun f h => ⟨f, row_below h hb⟩, row_below h.rt hb, h.hT, bcall h.be hb⟩
theorem RT.drew {w : World} {a b c T : Nat} {x : World} (h : RT w a b c T x) : RT w a b c T x.drew := ⟨h.ra, h.rb, h.rz, h.rt, h.hT, h.be.drew⟩
theorem RT.put {w : World} {a b c T n : Nat} {x x' : World} (h : RT w a b c T x) (hr : x'.rowIs (w.heap.size + 1 + 1 + 1) 24 4 (u64s (limb n))) {v0 v1 v2 v3 : Value} (e : x' = (((x.setCell ⟨w.heap.size + 1 + 1 + 1, 0, none⟩ v0).setCell ⟨w.heap.size + 1 + 1 + 1, 1, none⟩ v1).setCell ⟨w.heap.size + 1 + 1 + 1, 2, none⟩ v2).setCell ⟨w.heap.size + 1 + 1 + 1, 3, none⟩ v3) : RT w a b c T x' := by
  have := h.hT
  exact ⟨h.ra.of_block (put4_other e _ (by omega)), h.rb.of_block (put4_other e _ (by omega)), ⟨_, hr⟩, h.rt.of_block (put4_other e _ (by omega)), h.hT, by subst e; exact below_put4 h.be (by omega) _ _ _ _⟩
theorem top_row (w1 : World) (z : Nat) (hz : z = 0) : (w1.alloc (.cells #[.int .u64 (limb z 0), .int .u64 (limb z 1), .int .u64 (limb z 2), .int .u64 9223372036854775808] 24)).rowIs w1.heap.size 24 4 (u64s (limb 57896044618658097711785492504343953926634992332820282019728792003956564819968)) := by
  subst hz
  refine row_lit4 _ rfl ?_ ?_ ?_ ?_ <;> (unfold limb; decide)
variable {s : Act} {x : World} {pos : String} {af : Array Edge} {g : Option (Nat × Bool)} {K : Act → World → Prop} {Q : Exit → Act → World → Prop}
theorem st_assignc (d : Nat) (v : Value) {ty : TypeId} (hK : K (s.put (some d) v) x) : Oper.wp Try.prog { dst := some d, op := .assign (.const v), type := ty, pos := pos, after := af, guard := g } s x K Q := by
  go_simp
  exact hK
theorem st_less (t u d m n : Nat) (r : Bool) (hr : Hid (r = ltw m n)) {A : Array TypeId} {ty : TypeId} (he : s.tmps.getD t undef = wv m) (hu : s.tmps.getD u undef = wv n) (hK : ∀ x', Below x.heap.size x x' → K (s.put (some d) (.bool r)) x') :
    Oper.wp Try.prog { dst := some d, op := .call { callee := .value (.func 24), args := #[.tmp t, .tmp u], argTypes := A }, type := ty, pos := pos, after := af, guard := g } s x K Q := by
  refine st_call own_Less (ev2 he hu) (rless_any m n x) ?_
  rintro e x' ⟨rfl, hb⟩
  rw [← hr.out]
  exact ⟨_, rfl, hK _ hb⟩
theorem st_truth (t d n : Nat) (r : Bool) (hn : Hid (n = ftruth r)) {A : Array TypeId} {ty : TypeId} (he : s.tmps.getD t undef = .bool r) (hK : ∀ x', Below x.heap.size x x' → K (s.put (some d) (wv n)) x') :
    Oper.wp Try.prog { dst := some d, op := .call { callee := .value (.func 23), args := #[.tmp t], argTypes := A }, type := ty, pos := pos, after := af, guard := g } s x K Q :=
  st_ret own_truth (ev1 he) (rtruth_any r x) hn hK
set_option maxRecDepth 100000 in
set_option maxHeartbeats 8000000 in
theorem rcalc18 (a b c : Nat) (ha : Hid (a < M)) (hb0 : Hid (b < M)) (hc0 : Hid (c < M)) (w : World) : Calls Try.prog 6 #[.int .u8 18, wv a, wv b, wv c] w (Ret2 w (fcalc 18 a b c) 0) := by
  have hs := RC.start w a b c
  go_enter Try.func6, Try.ntmps6
  go_wp2_with fail
  refine (rsmall_any 0 (by omega) _).mono ?_
  rintro e w1 ⟨z, HZ, rfl, hb⟩
  replace hs := hs.call hb
  clear hb
  obtain ⟨T0, H0⟩ : ∃ T : Nat, Hid (T = 57896044618658097711785492504343953926634992332820282019728792003956564819968) := ⟨57896044618658097711785492504343953926634992332820282019728792003956564819968, rfl⟩
  obtain ⟨r1, H1⟩ : ∃ r, Hid (r = fadd (a % M) (T0 % M)) := ⟨_, rfl⟩
  obtain ⟨r2, H2⟩ : ∃ r, Hid (r = fadd (b % M) (T0 % M)) := ⟨_, rfl⟩
  obtain ⟨l, HL⟩ : ∃ l, Hid (l = ltw r1 r2) := ⟨_, rfl⟩
  obtain ⟨t, HT⟩ : ∃ t, Hid (t = ftruth l) := ⟨_, rfl⟩
  have ht : RT w a b c w1.heap.size (w1.alloc (.cells #[.int .u64 (limb z 0), .int .u64 (limb z 1), .int .u64 (limb z 2), .int .u64 9223372036854775808] 24)) := ⟨hs.ra.alloc _, hs.rb.alloc _, ⟨_, hs.rz.alloc _⟩, top_row w1 z HZ.out, hs.rz.lt, bal hs.be _⟩
  clear hs
  go_wp2
  refine wp_region_pred (by kernel_rfl) (RT w a b c w1.heap.size) (fun i x x' => if i = 8 then True else Below x.heap.size x x') [(some 91, fun v _ => v = wv a), (some 92, fun v _ => v = wv T0), (some 93, fun v _ => v = wv r1), (some 94, fun v _ => v = wv b), (some 95, fun v _ => v = wv T0), (some 96, fun v _ => v = wv r2), (some 97, fun v _ => v = .bool l), (some 98, fun v _ => v = wv t), (none, fun _ x => x.rowIs (w.heap.size + 1 + 1 + 1) 24 4 (u64s (limb t))), (some 9, fun v _ => v = .int .i64 0)] (by kernel_rfl) rfl (by kernel_rfl) (by kernel_rfl) ht.drew [(5, .pointer (some ⟨w.heap.size, 0, none⟩)), (6, .pointer (some ⟨w.heap.size + 1, 0, none⟩)), (8, .pointer (some ⟨w.heap.size + 1 + 1 + 1, 0, none⟩)), (10, .pointer (some ⟨w1.heap.size, 0, none⟩))] (by intro p hp; simp only [List.mem_cons, List.not_mem_nil, or_false] at hp; rcases hp with rfl | rfl | rfl | rfl <;> rfl) (by kernel_rfl) ?_ ?_ ?_
  · as_aux_lemma =>
    intro i j d T h hij v x x' hs hr ht
    have hj : j < 10 := (List.getElem?_eq_some_iff.1 h).1
    rcases p10 hj with rfl | rfl | rfl | rfl | rfl | rfl | rfl | rfl | rfl | rfl <;> obtain ⟨rfl, rfl⟩ := Prod.mk.inj (Option.some.inj (show some (_, _) = some (d, T) from h)) <;> (first | exact ht | (rw [if_neg hij] at hr; exact row_below ht hr))
  · as_aux_lemma =>
    intro i o d T ho ht s x hs hb hdep
    have hi : i < 10 := (Array.getElem?_eq_some_iff.1 ho).1
    rcases p10 hi with rfl | rfl | rfl | rfl | rfl | rfl | rfl | rfl | rfl | rfl
    · obtain rfl := Option.some.inj (show some _ = some o from ho)
      obtain ⟨rfl, rfl⟩ := Prod.mk.inj (Option.some.inj (show some (_, _) = some (d, T) from ht))
      exact ⟨want_none rfl, fun K hK => st_load 5 91 _ _ (hb _ (List.Mem.head _)) hs.ra (hK _ x hs (Below.refl _ _) (fun h => by cases h) rfl)⟩
    · obtain rfl := Option.some.inj (show some _ = some o from ho)
      obtain ⟨rfl, rfl⟩ := Prod.mk.inj (Option.some.inj (show some (_, _) = some (d, T) from ht))
      exact ⟨want_none rfl, fun K hK => st_load 10 92 _ _ (hb _ (List.Mem.tail _ (List.Mem.tail _ (List.Mem.tail _ (List.Mem.head _))))) (by rw [H0.out]; exact hs.rt) (hK _ x hs (Below.refl _ _) (fun h => by cases h) rfl)⟩
    · obtain rfl := Option.some.inj (show some _ = some o from ho)
      obtain ⟨rfl, rfl⟩ := Prod.mk.inj (Option.some.inj (show some (_, _) = some (d, T) from ht))
      exact ⟨want_none rfl, fun K hK => st_ret own_Add (ev2 (hdep ⟨0, .data⟩ (by simp) rfl _ _ rfl) (hdep ⟨1, .data⟩ (by simp) rfl _ _ rfl)) (radd_any a T0 x) H1 (fun x' h1 => hK _ x' (hs.call h1) h1 (fun h => by cases h) rfl)⟩
    · obtain rfl := Option.some.inj (show some _ = some o from ho)
      obtain ⟨rfl, rfl⟩ := Prod.mk.inj (Option.some.inj (show some (_, _) = some (d, T) from ht))
      exact ⟨want_none rfl, fun K hK => st_load 6 94 _ _ (hb _ (List.Mem.tail _ (List.Mem.head _))) hs.rb (hK _ x hs (Below.refl _ _) (fun h => by cases h) rfl)⟩
    · obtain rfl := Option.some.inj (show some _ = some o from ho)
      obtain ⟨rfl, rfl⟩ := Prod.mk.inj (Option.some.inj (show some (_, _) = some (d, T) from ht))
      exact ⟨want_none rfl, fun K hK => st_load 10 95 _ _ (hb _ (List.Mem.tail _ (List.Mem.tail _ (List.Mem.tail _ (List.Mem.head _))))) (by rw [H0.out]; exact hs.rt) (hK _ x hs (Below.refl _ _) (fun h => by cases h) rfl)⟩
    · obtain rfl := Option.some.inj (show some _ = some o from ho)
      obtain ⟨rfl, rfl⟩ := Prod.mk.inj (Option.some.inj (show some (_, _) = some (d, T) from ht))
      exact ⟨want_none rfl, fun K hK => st_ret own_Add (ev2 (hdep ⟨3, .data⟩ (by simp) rfl _ _ rfl) (hdep ⟨4, .data⟩ (by simp) rfl _ _ rfl)) (radd_any b T0 x) H2 (fun x' h1 => hK _ x' (hs.call h1) h1 (fun h => by cases h) rfl)⟩
    · obtain rfl := Option.some.inj (show some _ = some o from ho)
      obtain ⟨rfl, rfl⟩ := Prod.mk.inj (Option.some.inj (show some (_, _) = some (d, T) from ht))
      exact ⟨want_none rfl, fun K hK => st_less 93 96 97 r1 r2 l HL (hdep ⟨2, .data⟩ (by simp) rfl _ _ rfl) (hdep ⟨5, .data⟩ (by simp) rfl _ _ rfl) (fun x' h1 => hK _ x' (hs.call h1) h1 (fun h => by cases h) rfl)⟩
    · obtain rfl := Option.some.inj (show some _ = some o from ho)
      obtain ⟨rfl, rfl⟩ := Prod.mk.inj (Option.some.inj (show some (_, _) = some (d, T) from ht))
      exact ⟨want_none rfl, fun K hK => st_truth 97 98 t l HT (hdep ⟨6, .data⟩ (by simp) rfl _ _ rfl) (fun x' h1 => hK _ x' (hs.call h1) h1 (fun h => by cases h) rfl)⟩
    · obtain rfl := Option.some.inj (show some _ = some o from ho)
      obtain ⟨rfl, rfl⟩ := Prod.mk.inj (Option.some.inj (show some (_, _) = some (d, T) from ht))
      exact ⟨want_none rfl, fun K hK => hs.rz.elim fun f hf => st_storew (hb _ (List.Mem.tail _ (List.Mem.tail _ (List.Mem.head _)))) (hdep ⟨7, .data⟩ (by simp) rfl _ _ rfl) hf fun x' h1 h2 => hK undef x' (hs.put h1 h2) trivial (fun _ => rfl) h1⟩
    · obtain rfl := Option.some.inj (show some _ = some o from ho)
      obtain ⟨rfl, rfl⟩ := Prod.mk.inj (Option.some.inj (show some (_, _) = some (d, T) from ht))
      exact ⟨want_none rfl, fun K hK => st_assignc 9 _ (hK _ x hs (Below.refl _ _) (fun h => by cases h) rfl)⟩
  · intro vs x hs hl hT
    obtain ⟨v0, v1, v2, v3, v4, v5, v6, v7, v8, v9, rfl⟩ := len10 hl
    have h0 : (fun v _ => v = wv a) v0 x := hT 0 _ _ rfl
    have h1 : (fun v _ => v = wv T0) v1 x := hT 1 _ _ rfl
    have h2 : (fun v _ => v = wv r1) v2 x := hT 2 _ _ rfl
    have h3 : (fun v _ => v = wv b) v3 x := hT 3 _ _ rfl
    have h4 : (fun v _ => v = wv T0) v4 x := hT 4 _ _ rfl
    have h5 : (fun v _ => v = wv r2) v5 x := hT 5 _ _ rfl
    have h6 : (fun v _ => v = .bool l) v6 x := hT 6 _ _ rfl
    have h7 : (fun v _ => v = wv t) v7 x := hT 7 _ _ rfl
    have h8 : (fun _ x => x.rowIs (w.heap.size + 1 + 1 + 1) 24 4 (u64s (limb t))) v8 x := hT 8 _ _ rfl
    have h9 : (fun v _ => v = .int .i64 0) v9 x := hT 9 _ _ rfl
    clear hl hT
    simp only [zipo, fill, List.foldl, Act.put, List.setIfInBounds_toArray, List.set_cons_zero, List.set_cons_succ]
    obtain ⟨q0, q1, q2, q3⟩ := row_cells4 h8
    subst h0 h1 h2 h3 h4 h5 h6 h7 h9
    go_wp2
    refine bodyPost_ret (v := .tuple #[wv t, .int .i64 0]) (by simp [results, Try.results6, go_sem, q0, q1, q2, q3]) rfl (ret2_mk ?_ hs.be)
    rw [HT.out, HL.out, H1.out, H2.out, H0.out, Nat.mod_eq_of_lt ha.out, Nat.mod_eq_of_lt hb0.out, Nat.mod_eq_of_lt (show 57896044618658097711785492504343953926634992332820282019728792003956564819968 < M by unfold M; decide), slt_num a b ha.out hb0.out]
    simp [fcalc]
set_option maxRecDepth 100000 in
set_option maxHeartbeats 8000000 in
theorem rcalc19 (a b c : Nat) (ha : Hid (a < M)) (hb0 : Hid (b < M)) (hc0 : Hid (c < M)) (w : World) : Calls Try.prog 6 #[.int .u8 19, wv a, wv b, wv c] w (Ret2 w (fcalc 19 a b c) 0) := by
  have hs := RC.start w a b c
  go_enter Try.func6, Try.ntmps6
  go_wp2_with fail
  refine (rsmall_any 0 (by omega) _).mono ?_
  rintro e w1 ⟨z, HZ, rfl, hb⟩
  replace hs := hs.call hb
  clear hb
  obtain ⟨T0, H0⟩ : ∃ T : Nat, Hid (T = 57896044618658097711785492504343953926634992332820282019728792003956564819968) := ⟨57896044618658097711785492504343953926634992332820282019728792003956564819968, rfl⟩
  obtain ⟨r1, H1⟩ : ∃ r, Hid (r = fadd (b % M) (T0 % M)) := ⟨_, rfl⟩
  obtain ⟨r2, H2⟩ : ∃ r, Hid (r = fadd (a % M) (T0 % M)) := ⟨_, rfl⟩
  obtain ⟨l, HL⟩ : ∃ l, Hid (l = ltw r1 r2) := ⟨_, rfl⟩
  obtain ⟨t, HT⟩ : ∃ t, Hid (t = ftruth l) := ⟨_, rfl⟩
  have ht : RT w a b c w1.heap.size (w1.alloc (.cells #[.int .u64 (limb z 0), .int .u64 (limb z 1), .int .u64 (limb z 2), .int .u64 9223372036854775808] 24)) := ⟨hs.ra.alloc _, hs.rb.alloc _, ⟨_, hs.rz.alloc _⟩, top_row w1 z HZ.out, hs.rz.lt, bal hs.be _⟩
  clear hs
  go_wp2
  refine wp_region_pred (by kernel_rfl) (RT w a b c w1.heap.size) (fun i x x' => if i = 8 then True else Below x.heap.size x x') [(some 101, fun v _ => v = wv b), (some 102, fun v _ => v = wv T0), (some 103, fun v _ => v = wv r1), (some 104, fun v _ => v = wv a), (some 105, fun v _ => v = wv T0), (some 106, fun v _ => v = wv r2), (some 107, fun v _ => v = .bool l), (some 108, fun v _ => v = wv t), (none, fun _ x => x.rowIs (w.heap.size + 1 + 1 + 1) 24 4 (u64s (limb t))), (some 9, fun v _ => v = .int .i64 0)] (by kernel_rfl) rfl (by kernel_rfl) (by kernel_rfl) ht.drew [(5, .pointer (some ⟨w.heap.size, 0, none⟩)), (6, .pointer (some ⟨w.heap.size + 1, 0, none⟩)), (8, .pointer (some ⟨w.heap.size + 1 + 1 + 1, 0, none⟩)), (10, .pointer (some ⟨w1.heap.size, 0, none⟩))] (by intro p hp; simp only [List.mem_cons, List.not_mem_nil, or_false] at hp; rcases hp with rfl | rfl | rfl | rfl <;> rfl) (by kernel_rfl) ?_ ?_ ?_
  · as_aux_lemma =>
    intro i j d T h hij v x x' hs hr ht
    have hj : j < 10 := (List.getElem?_eq_some_iff.1 h).1
    rcases p10 hj with rfl | rfl | rfl | rfl | rfl | rfl | rfl | rfl | rfl | rfl <;> obtain ⟨rfl, rfl⟩ := Prod.mk.inj (Option.some.inj (show some (_, _) = some (d, T) from h)) <;> (first | exact ht | (rw [if_neg hij] at hr; exact row_below ht hr))
  · as_aux_lemma =>
    intro i o d T ho ht s x hs hb hdep
    have hi : i < 10 := (Array.getElem?_eq_some_iff.1 ho).1
    rcases p10 hi with rfl | rfl | rfl | rfl | rfl | rfl | rfl | rfl | rfl | rfl
    · obtain rfl := Option.some.inj (show some _ = some o from ho)
      obtain ⟨rfl, rfl⟩ := Prod.mk.inj (Option.some.inj (show some (_, _) = some (d, T) from ht))
      exact ⟨want_none rfl, fun K hK => st_load 6 101 _ _ (hb _ (List.Mem.tail _ (List.Mem.head _))) hs.rb (hK _ x hs (Below.refl _ _) (fun h => by cases h) rfl)⟩
    · obtain rfl := Option.some.inj (show some _ = some o from ho)
      obtain ⟨rfl, rfl⟩ := Prod.mk.inj (Option.some.inj (show some (_, _) = some (d, T) from ht))
      exact ⟨want_none rfl, fun K hK => st_load 10 102 _ _ (hb _ (List.Mem.tail _ (List.Mem.tail _ (List.Mem.tail _ (List.Mem.head _))))) (by rw [H0.out]; exact hs.rt) (hK _ x hs (Below.refl _ _) (fun h => by cases h) rfl)⟩
    · obtain rfl := Option.some.inj (show some _ = some o from ho)
      obtain ⟨rfl, rfl⟩ := Prod.mk.inj (Option.some.inj (show some (_, _) = some (d, T) from ht))
      exact ⟨want_none rfl, fun K hK => st_ret own_Add (ev2 (hdep ⟨0, .data⟩ (by simp) rfl _ _ rfl) (hdep ⟨1, .data⟩ (by simp) rfl _ _ rfl)) (radd_any b T0 x) H1 (fun x' h1 => hK _ x' (hs.call h1) h1 (fun h => by cases h) rfl)⟩
    · obtain rfl := Option.some.inj (show some _ = some o from ho)
      obtain ⟨rfl, rfl⟩ := Prod.mk.inj (Option.some.inj (show some (_, _) = some (d, T) from ht))
      exact ⟨want_none rfl, fun K hK => st_load 5 104 _ _ (hb _ (List.Mem.head _)) hs.ra (hK _ x hs (Below.refl _ _) (fun h => by cases h) rfl)⟩
    · obtain rfl := Option.some.inj (show some _ = some o from ho)
      obtain ⟨rfl, rfl⟩ := Prod.mk.inj (Option.some.inj (show some (_, _) = some (d, T) from ht))
      exact ⟨want_none rfl, fun K hK => st_load 10 105 _ _ (hb _ (List.Mem.tail _ (List.Mem.tail _ (List.Mem.tail _ (List.Mem.head _))))) (by rw [H0.out]; exact hs.rt) (hK _ x hs (Below.refl _ _) (fun h => by cases h) rfl)⟩
    · obtain rfl := Option.some.inj (show some _ = some o from ho)
      obtain ⟨rfl, rfl⟩ := Prod.mk.inj (Option.some.inj (show some (_, _) = some (d, T) from ht))
      exact ⟨want_none rfl, fun K hK => st_ret own_Add (ev2 (hdep ⟨3, .data⟩ (by simp) rfl _ _ rfl) (hdep ⟨4, .data⟩ (by simp) rfl _ _ rfl)) (radd_any a T0 x) H2 (fun x' h1 => hK _ x' (hs.call h1) h1 (fun h => by cases h) rfl)⟩
    · obtain rfl := Option.some.inj (show some _ = some o from ho)
      obtain ⟨rfl, rfl⟩ := Prod.mk.inj (Option.some.inj (show some (_, _) = some (d, T) from ht))
      exact ⟨want_none rfl, fun K hK => st_less 103 106 107 r1 r2 l HL (hdep ⟨2, .data⟩ (by simp) rfl _ _ rfl) (hdep ⟨5, .data⟩ (by simp) rfl _ _ rfl) (fun x' h1 => hK _ x' (hs.call h1) h1 (fun h => by cases h) rfl)⟩
    · obtain rfl := Option.some.inj (show some _ = some o from ho)
      obtain ⟨rfl, rfl⟩ := Prod.mk.inj (Option.some.inj (show some (_, _) = some (d, T) from ht))
      exact ⟨want_none rfl, fun K hK => st_truth 107 108 t l HT (hdep ⟨6, .data⟩ (by simp) rfl _ _ rfl) (fun x' h1 => hK _ x' (hs.call h1) h1 (fun h => by cases h) rfl)⟩
    · obtain rfl := Option.some.inj (show some _ = some o from ho)
      obtain ⟨rfl, rfl⟩ := Prod.mk.inj (Option.some.inj (show some (_, _) = some (d, T) from ht))
      exact ⟨want_none rfl, fun K hK => hs.rz.elim fun f hf => st_storew (hb _ (List.Mem.tail _ (List.Mem.tail _ (List.Mem.head _)))) (hdep ⟨7, .data⟩ (by simp) rfl _ _ rfl) hf fun x' h1 h2 => hK undef x' (hs.put h1 h2) trivial (fun _ => rfl) h1⟩
    · obtain rfl := Option.some.inj (show some _ = some o from ho)
      obtain ⟨rfl, rfl⟩ := Prod.mk.inj (Option.some.inj (show some (_, _) = some (d, T) from ht))
      exact ⟨want_none rfl, fun K hK => st_assignc 9 _ (hK _ x hs (Below.refl _ _) (fun h => by cases h) rfl)⟩
  · intro vs x hs hl hT
    obtain ⟨v0, v1, v2, v3, v4, v5, v6, v7, v8, v9, rfl⟩ := len10 hl
    have h0 : (fun v _ => v = wv b) v0 x := hT 0 _ _ rfl
    have h1 : (fun v _ => v = wv T0) v1 x := hT 1 _ _ rfl
    have h2 : (fun v _ => v = wv r1) v2 x := hT 2 _ _ rfl
    have h3 : (fun v _ => v = wv a) v3 x := hT 3 _ _ rfl
    have h4 : (fun v _ => v = wv T0) v4 x := hT 4 _ _ rfl
    have h5 : (fun v _ => v = wv r2) v5 x := hT 5 _ _ rfl
    have h6 : (fun v _ => v = .bool l) v6 x := hT 6 _ _ rfl
    have h7 : (fun v _ => v = wv t) v7 x := hT 7 _ _ rfl
    have h8 : (fun _ x => x.rowIs (w.heap.size + 1 + 1 + 1) 24 4 (u64s (limb t))) v8 x := hT 8 _ _ rfl
    have h9 : (fun v _ => v = .int .i64 0) v9 x := hT 9 _ _ rfl
    clear hl hT
    simp only [zipo, fill, List.foldl, Act.put, List.setIfInBounds_toArray, List.set_cons_zero, List.set_cons_succ]
    obtain ⟨q0, q1, q2, q3⟩ := row_cells4 h8
    subst h0 h1 h2 h3 h4 h5 h6 h7 h9
    go_wp2
    refine bodyPost_ret (v := .tuple #[wv t, .int .i64 0]) (by simp [results, Try.results6, go_sem, q0, q1, q2, q3]) rfl (ret2_mk ?_ hs.be)
    rw [HT.out, HL.out, H1.out, H2.out, H0.out, Nat.mod_eq_of_lt ha.out, Nat.mod_eq_of_lt hb0.out, Nat.mod_eq_of_lt (show 57896044618658097711785492504343953926634992332820282019728792003956564819968 < M by unfold M; decide), slt_num b a hb0.out ha.out]
    simp [fcalc]
end cin
end Go.Proofs.Ytohoajjdoihekaa
