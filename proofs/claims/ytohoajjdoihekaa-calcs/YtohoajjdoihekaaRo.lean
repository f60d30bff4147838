/-
  The walk of the document's answer: Calc, at every operation; then of the statement Calcs.
-/
import Derived.Test.YtohoajjdoihekaaRl
import Derived.Test.YtohoajjdoihekaaRm
import Derived.Test.YtohoajjdoihekaaRn
import Derived.Test.YtohoajjdoihekaaNum7
set_option linter.unusedVariables false
set_option linter.unusedSimpArgs false
namespace Go.Proofs.Ytohoajjdoihekaa
open Go.RowKit
namespace cin
theorem ref_cases (op : Nat) : op = 0 ∨ op = 1 ∨ op = 2 ∨ op = 3 ∨ op = 4 ∨ op = 5 ∨ op = 6 ∨ op = 7 ∨ op = 8 ∨ op = 9 ∨ op = 10 ∨ op = 11 ∨ (12 ≤ op ∧ op ≤ 15) ∨ op = 16 ∨ op = 17 ∨ op = 18 ∨ op = 19 ∨ op = 20 ∨ op = 21 ∨ op = 22 ∨ op = 23 ∨ op = 24 ∨ op = 25 ∨ op = 26 ∨ op = 27 ∨ op = 28 ∨ op = 29 ∨ 30 ≤ op := by omega
theorem ferr_none (op : Nat) (h : op = 0 ∨ (12 ≤ op ∧ op ≤ 15) ∨ 30 ≤ op) : ferr op = 1 := by
  unfold ferr
  rw [if_neg (by omega)]
theorem rcalc_any (op : Nat) (ho : op ≤ 255) (a b c : Nat) (w : World) : Calls Try.prog 6 #[.int .u8 (op : Int), wv a, wv b, wv c] w (Ret2 w (fcalc op (a % M) (b % M) (c % M)) (ferr op)) := by
  rw [← wv_mod a, ← wv_mod b, ← wv_mod c]
  have ha : Hid (a % M < M) := Nat.mod_lt _ Mpos
  have hb : Hid (b % M < M) := Nat.mod_lt _ Mpos
  have hc : Hid (c % M < M) := Nat.mod_lt _ Mpos
  generalize a % M = a at *
  generalize b % M = b at *
  generalize c % M = c at *
  rcases ref_cases op with h | h | h | h | h | h | h | h | h | h | h | h | h | h | h | h | h | h | h | h | h | h | h | h | h | h | h | h
  · rw [ferr_none op (Or.inl h)]; exact rcalcN0 a b c op h ha hb hc w
  · subst h; have h := rcalc1 a b c ha hb hc w; exact h
  · subst h; have h := rcalc2 a b c ha hb hc w; exact h
  · subst h; have h := rcalc3 a b c ha hb hc w; exact h
  · subst h; have h := rcalc4 a b c ha hb hc w; exact h
  · subst h; have h := rcalc5 a b c ha hb hc w; exact h
  · subst h; have h := rcalc6 a b c ha hb hc w; exact h
  · subst h; have h := rcalc7 a b c ha hb hc w; exact h
  · subst h; have h := rcalc8 a b c ha hb hc w; exact h
  · subst h; have h := rcalc9 a b c ha hb hc w; exact h
  · subst h; have h := rcalc10 a b c ha hb hc w; exact h
  · subst h; have h := rcalc11 a b c ha hb hc w; exact h
  · rw [ferr_none op (Or.inr (Or.inl h))]; exact rcalcN1 a b c op h.1 h.2 ha hb hc w
  · subst h; have h := rcalc16 a b c ha hb hc w; exact h
  · subst h; have h := rcalc17 a b c ha hb hc w; exact h
  · subst h; have h := rcalc18 a b c ha hb hc w; exact h
  · subst h; have h := rcalc19 a b c ha hb hc w; exact h
  · subst h; have h := rcalc20 a b c ha hb hc w; exact h
  · subst h; have h := rcalc21 a b c ha hb hc w; exact h
  · subst h; have h := rcalc22 a b c ha hb hc w; exact h
  · subst h; have h := rcalc23 a b c ha hb hc w; exact h
  · subst h; have h := rcalc24 a b c ha hb hc w; exact h
  · subst h; have h := rcalc25 a b c ha hb hc w; exact h
  · subst h; have h := rcalc26 a b c ha hb hc w; exact h
  · subst h; have h := rcalc27 a b c ha hb hc w; exact h
  · subst h; have h := rcalc28 a b c ha hb hc w; exact h
  · subst h; have h := rcalc29 a b c ha hb hc w; exact h
  · rw [ferr_none op (Or.inr (Or.inr h))]; exact rcalcN2 a b c op h ho ha hb hc w
theorem s18 {i : Nat} (h : i < 18) : i = 0 ∨ i = 1 ∨ i = 2 ∨ i = 3 ∨ i = 4 ∨ i = 5 ∨ i = 6 ∨ i = 7 ∨ i = 8 ∨ i = 9 ∨ i = 10 ∨ i = 11 ∨ i = 12 ∨ i = 13 ∨ i = 14 ∨ i = 15 ∨ i = 16 ∨ i = 17 := by omega
theorem own_wCalc : Own 5 := fun _ _ => by kernel_rfl
structure CL (w : World) (a b c p9 p11 X Y : Nat) (x : World) : Prop where
  ra : x.rowIs (w.heap.size) 24 4 (u64s (limb a))
  rb : x.rowIs (w.heap.size + 1) 24 4 (u64s (limb b))
  rc : x.rowIs (w.heap.size + 1 + 1) 24 4 (u64s (limb c))
  r9 : x.rowIs p9 24 4 (u64s (limb X))
  r11 : x.rowIs p11 24 4 (u64s (limb Y))
  h9 : w.heap.size + 1 + 1 < p9
  h11 : p9 < p11
  be : Below w.heap.size w x
theorem CL.call {w : World} {a b c p9 p11 X Y : Nat} {x y : World} (h : CL w a b c p9 p11 X Y x) (hb : Below x.heap.size x y) : CL w a b c p9 p11 X Y y := ⟨row_below h.ra hb, row_below h.rb hb, row_below h.rc hb, row_below h.r9 hb, row_below h.r11 hb, h.h9, h.h11, bcall h.be hb⟩
theorem CL.drew {w : World} {a b c p9 p11 X Y : Nat} {x : World} (h : CL w a b c p9 p11 X Y x) : CL w a b c p9 p11 X Y x.drew := ⟨h.ra, h.rb, h.rc, h.r9, h.r11, h.h9, h.h11, h.be.drew⟩
theorem CL.put {w : World} {a b c p9 p11 X Y p : Nat} {x x' : World} (h : CL w a b c p9 p11 X Y x) (hp : p11 < p) {v0 v1 v2 v3 : Value} (e : x' = (((x.setCell ⟨p, 0, none⟩ v0).setCell ⟨p, 1, none⟩ v1).setCell ⟨p, 2, none⟩ v2).setCell ⟨p, 3, none⟩ v3) : CL w a b c p9 p11 X Y x' := by
  have h1 := h.h9
  have h2 := h.h11
  exact ⟨h.ra.of_block (put4_other e _ (by omega)), h.rb.of_block (put4_other e _ (by omega)), h.rc.of_block (put4_other e _ (by omega)), h.r9.of_block (put4_other e _ (by omega)), h.r11.of_block (put4_other e _ (by omega)), h1, h2, by subst e; exact below_put4 h.be (by omega) _ _ _ _⟩
section
variable {s : Act} {x : World} {pos : String} {af : Array Edge} {g : Option (Nat × Bool)} {K : Act → World → Prop} {Q : Exit → Act → World → Prop}
theorem st_eqi (t u d : Nat) (k : Int) {ty : TypeId} (he : s.tmps.getD t undef = .int .i64 k) (hu : s.tmps.getD u undef = .int .i64 k) (hK : K (s.put (some d) (.bool true)) x) :
    Oper.wp Try.prog { dst := some d, op := .binOp .eql 25 (.tmp t) (.tmp u) 25, type := ty, pos := pos, after := af, guard := g } s x K Q := by
  have he2 : s.eval (.tmp t) = .int .i64 k := he
  have hu2 : s.eval (.tmp u) = .int .i64 k := hu
  go_simp
  exact hK
theorem st_eqic (t d : Nat) {ty : TypeId} (he : s.tmps.getD t undef = .int .i64 0) (hK : K (s.put (some d) (.bool true)) x) :
    Oper.wp Try.prog { dst := some d, op := .binOp .eql 25 (.tmp t) (.const (.int .i64 0)) 25, type := ty, pos := pos, after := af, guard := g } s x K Q := by
  have he2 : s.eval (.tmp t) = .int .i64 0 := he
  go_simp
  exact hK
end
set_option maxRecDepth 100000 in
set_option maxHeartbeats 8000000 in
theorem calcs_any (op : Nat) (ho : op ≤ 255) (a b c : Nat) (w : World) : Calls Try.prog 3 #[.int .u8 (op : Int), wv a, wv b, wv c] w fun e w' => e = .returned (.bool true) ∧ Below w.heap.size w w' := by
  have ra := row_lit4 (w := w) (n := w.heap.size) (t := 24) (limb a) rfl rfl rfl rfl rfl
  clear ra
  obtain ⟨k, HK⟩ : ∃ k, Hid (k = ferr op) := ⟨_, rfl⟩
  have hc1 : Hid (∀ w, Calls Try.prog 5 #[.int .u8 (op : Int), wv a, wv b, wv c] w (Ret2 w (fcalc op (a % M) (b % M) (c % M)) k)) := fun w => by rw [HK.out]; exact calc_any op ho a b c w
  have hc2 : Hid (∀ w, Calls Try.prog 6 #[.int .u8 (op : Int), wv a, wv b, wv c] w (Ret2 w (fcalc op (a % M) (b % M) (c % M)) k)) := fun w => by rw [HK.out]; exact rcalc_any op ho a b c w
  go_enter Try.func3, Try.ntmps3
  go_wp2_with fail
  refine (hc1.out _).mono ?_
  rintro e w1 ⟨X, HX, rfl, hb⟩
  have ra := row_below (row_lit4 (n := w.heap.size) (limb a) rfl rfl rfl rfl rfl |>.alloc _ |>.alloc _) hb
  have rb := row_below (row_lit4 (n := w.heap.size + 1) (limb b) (by simp) rfl rfl rfl rfl |>.alloc _) hb
  have rc := row_below (row_lit4 (n := w.heap.size + 1 + 1) (limb c) (by simp) rfl rfl rfl rfl) hb
  have be := bcall (bal (bal (bal (Below.refl _ _) _) _) _) hb
  clear hb
  have l2 := rc.lt
  obtain ⟨a0, a1, a2, a3⟩ := row_cells4 ra
  obtain ⟨b0, b1, b2, b3⟩ := row_cells4 rb
  obtain ⟨c0, c1, c2, c3⟩ := row_cells4 rc
  have al := ra.lt
  have bl := rb.lt
  go_wp2_with fail
  refine (hc2.out _).mono ?_
  rintro e w2 ⟨Y, HY, rfl, hb⟩
  clear a0 a1 a2 a3 b0 b1 b2 b3 c0 c1 c2 c3
  replace ra := row_below (ra.alloc _) hb
  replace rb := row_below (rb.alloc _) hb
  replace rc := row_below (rc.alloc _) hb
  have r9 := row_below (row_lit4 (n := w1.heap.size) (limb X) rfl rfl rfl rfl rfl) hb
  replace be := bcall (bal be _) hb
  clear hb
  have hs : CL w a b c w1.heap.size w2.heap.size X Y (w2.alloc (.cells #[.int .u64 (limb Y 0), .int .u64 (limb Y 1), .int .u64 (limb Y 2), .int .u64 (limb Y 3)] 24)) := ⟨ra.alloc _, rb.alloc _, rc.alloc _, r9.alloc _, row_lit4 (limb Y) rfl rfl rfl rfl rfl, l2, r9.lt, bal be _⟩
  clear ra rb rc r9 be l2 al bl
  obtain ⟨m2, H2⟩ : ∃ m, Hid (m = 2) := ⟨2, rfl⟩
  obtain ⟨m3, H3⟩ : ∃ m, Hid (m = 3) := ⟨3, rfl⟩
  obtain ⟨Z, HZ⟩ : ∃ Z, Hid (Z = fcalc 1 (m2 % M) (m3 % M) (c % M)) := ⟨_, rfl⟩
  go_wp2
  generalize w1.heap.size = p9 at *
  generalize w2.heap.size = p11 at *
  refine wp_region_fr (by kernel_rfl) [13] (fun _ x => CL w a b c p9 p11 X Y x) (fun i l x x' => if i = 8 then Stored p11 (l.getD 0 undef) x x' else Below x.heap.size x x') [⟨some 32, [32], fun l x => l.getD 0 undef = wv m2⟩, ⟨some 33, [33], fun l x => l.getD 0 undef = wv m3⟩, ⟨some 34, [34], fun l x => l.getD 0 undef = wv c⟩, ⟨some 35, [35], fun l x => l.getD 0 undef = .tuple #[wv Z, .int .i64 0]⟩, ⟨some 31, [31], fun l x => l.getD 0 undef = .tuple #[wv Z, .int .i64 0]⟩, ⟨some 36, [36], fun l x => l.getD 0 undef = wv Z⟩, ⟨some 37, [37], fun l x => l.getD 0 undef = .int .i64 0⟩, ⟨some 13, [13], fun l x => PtrRow p11 (l.getD 0 undef) x⟩, ⟨none, [13], fun l x => PtrIs p11 Z (l.getD 0 undef) x⟩, ⟨some 14, [14], fun l x => l.getD 0 undef = .int .i64 0⟩] [some 32, some 33, some 34, some 35, some 31, some 36, some 37, some 13, none, some 14] rfl (by kernel_rfl) (by kernel_rfl) rfl (by kernel_rfl) (by kernel_rfl) hs.drew [(7, .pointer (some ⟨w.heap.size + 1 + 1, 0, none⟩))] (by intro p hp; simp only [List.mem_cons, List.not_mem_nil, or_false] at hp; rcases hp with rfl <;> rfl) (by kernel_rfl) ?_ ?_ ?_
  · as_aux_lemma =>
    intro i j t h hij e x x' hs hr ht
    have hj : j < 10 := (List.getElem?_eq_some_iff.1 h).1
    rcases p10 hj with rfl | rfl | rfl | rfl | rfl | rfl | rfl | rfl | rfl | rfl <;> obtain rfl := Option.some.inj (show some _ = some t from h) <;> (by_cases i1 : i = 8; (rw [if_pos i1] at hr; first | exact absurd i1 hij | exact ht | exact ht.stored hr); (rw [if_neg i1] at hr; first | exact ht | exact ht.below hr))
  · as_aux_lemma =>
    intro i o t ho ht s x hs hb hdep
    have hi : i < 10 := (Array.getElem?_eq_some_iff.1 ho).1
    rcases p10 hi with rfl | rfl | rfl | rfl | rfl | rfl | rfl | rfl | rfl | rfl
    · obtain rfl := Option.some.inj (show some _ = some o from ho)
      obtain rfl := Option.some.inj (show some _ = some t from ht)
      exact ⟨want_none rfl, fun K hK => st_ret own_Small (ev1 rfl) (rsmall_any 2 (by omega) x) H2 (fun x' h1 => hK _ x' (hs.call h1) h1 rfl)⟩
    · obtain rfl := Option.some.inj (show some _ = some o from ho)
      obtain rfl := Option.some.inj (show some _ = some t from ht)
      exact ⟨want_none rfl, fun K hK => st_ret own_Small (ev1 rfl) (rsmall_any 3 (by omega) x) H3 (fun x' h1 => hK _ x' (hs.call h1) h1 rfl)⟩
    · obtain rfl := Option.some.inj (show some _ = some o from ho)
      obtain rfl := Option.some.inj (show some _ = some t from ht)
      exact ⟨want_none rfl, fun K hK => st_load 7 34 _ _ (hb _ (List.Mem.head _)) hs.rc (hK _ x hs (Below.refl _ _) rfl)⟩
    · obtain rfl := Option.some.inj (show some _ = some o from ho)
      obtain rfl := Option.some.inj (show some _ = some t from ht)
      exact ⟨want_none rfl, fun K hK => st_call own_wCalc (ev4 rfl (hdep ⟨0, .data⟩ (by simp) rfl _ rfl) (hdep ⟨1, .data⟩ (by simp) rfl _ rfl) (hdep ⟨2, .data⟩ (by simp) rfl _ rfl)) (calc_any 1 (by omega) m2 m3 c x) fun e x' h1 => by obtain ⟨z', hz', rfl, hb'⟩ := h1; obtain rfl : Z = z' := HZ.out.trans hz'.out.symm; exact ⟨_, rfl, hK _ x' (hs.call hb') hb' rfl⟩⟩
    · obtain rfl := Option.some.inj (show some _ = some o from ho)
      obtain rfl := Option.some.inj (show some _ = some t from ht)
      exact ⟨want_none rfl, fun K hK => st_move 35 31 _ (hdep ⟨3, .data⟩ (by simp) rfl _ rfl) (hK _ x hs (Below.refl _ _) rfl)⟩
    · obtain rfl := Option.some.inj (show some _ = some o from ho)
      obtain rfl := Option.some.inj (show some _ = some t from ht)
      exact ⟨want_none rfl, fun K hK => st_ext0 31 36 _ _ (hdep ⟨4, .data⟩ (by simp) rfl _ rfl) (hK _ x hs (Below.refl _ _) rfl)⟩
    · obtain rfl := Option.some.inj (show some _ = some o from ho)
      obtain rfl := Option.some.inj (show some _ = some t from ht)
      exact ⟨want_none rfl, fun K hK => st_ext1 31 37 _ _ (hdep ⟨4, .data⟩ (by simp) rfl _ rfl) (hK _ x hs (Below.refl _ _) rfl)⟩
    · obtain rfl := Option.some.inj (show some _ = some o from ho)
      obtain rfl := Option.some.inj (show some _ = some t from ht)
      exact ⟨want_none rfl, fun K hK => st_alloc 13 (hK _ _ (hs.call (bel_alloc _ _)) (bel_alloc _ _) ⟨_, _, rfl, hs.r11.lt, row_lit4 (fun _ => 0) rfl rfl rfl rfl rfl⟩)⟩
    · obtain rfl := Option.some.inj (show some _ = some o from ho)
      obtain rfl := Option.some.inj (show some _ = some t from ht)
      exact ⟨want_none rfl, fun K hK => by obtain ⟨p, f, hp1, hp2, hp3⟩ := (hdep ⟨7, .data⟩ (by simp) rfl _ rfl); exact st_storew hp1 (hdep ⟨5, .data⟩ (by simp) rfl _ rfl) hp3 fun x' h1 h2 => hK undef x' (hs.put hp2 h2) ⟨p, f, _, _, _, _, hp1, hp2, hp3, h2⟩ ⟨p, hp1, hp2, h1⟩⟩
    · obtain rfl := Option.some.inj (show some _ = some o from ho)
      obtain rfl := Option.some.inj (show some _ = some t from ht)
      exact ⟨want_none rfl, fun K hK => st_assign 37 14 _ (hdep ⟨6, .data⟩ (by simp) rfl _ rfl) (hK _ x hs (Below.refl _ _) rfl)⟩
  · intro e vs x hl he hbe hs hT
    obtain ⟨v0, v1, v2, v3, v4, v5, v6, v7, v8, v9, rfl⟩ := len10 hl
    have h0 : (fun l x => l.getD 0 undef = wv m2) [v0] x := by
      have h := hT 0 _ rfl
      have hh : (fun l x => l.getD 0 undef = wv m2) [e 32] x := h
      rw [show e 32 = v0 from he 0 32 _ rfl rfl] at hh
      exact hh
    have h1 : (fun l x => l.getD 0 undef = wv m3) [v1] x := by
      have h := hT 1 _ rfl
      have hh : (fun l x => l.getD 0 undef = wv m3) [e 33] x := h
      rw [show e 33 = v1 from he 1 33 _ rfl rfl] at hh
      exact hh
    have h2 : (fun l x => l.getD 0 undef = wv c) [v2] x := by
      have h := hT 2 _ rfl
      have hh : (fun l x => l.getD 0 undef = wv c) [e 34] x := h
      rw [show e 34 = v2 from he 2 34 _ rfl rfl] at hh
      exact hh
    have h3 : (fun l x => l.getD 0 undef = .tuple #[wv Z, .int .i64 0]) [v3] x := by
      have h := hT 3 _ rfl
      have hh : (fun l x => l.getD 0 undef = .tuple #[wv Z, .int .i64 0]) [e 35] x := h
      rw [show e 35 = v3 from he 3 35 _ rfl rfl] at hh
      exact hh
    have h4 : (fun l x => l.getD 0 undef = .tuple #[wv Z, .int .i64 0]) [v4] x := by
      have h := hT 4 _ rfl
      have hh : (fun l x => l.getD 0 undef = .tuple #[wv Z, .int .i64 0]) [e 31] x := h
      rw [show e 31 = v4 from he 4 31 _ rfl rfl] at hh
      exact hh
    have h5 : (fun l x => l.getD 0 undef = wv Z) [v5] x := by
      have h := hT 5 _ rfl
      have hh : (fun l x => l.getD 0 undef = wv Z) [e 36] x := h
      rw [show e 36 = v5 from he 5 36 _ rfl rfl] at hh
      exact hh
    have h6 : (fun l x => l.getD 0 undef = .int .i64 0) [v6] x := by
      have h := hT 6 _ rfl
      have hh : (fun l x => l.getD 0 undef = .int .i64 0) [e 37] x := h
      rw [show e 37 = v6 from he 6 37 _ rfl rfl] at hh
      exact hh
    have h7 : (fun l x => PtrRow p11 (l.getD 0 undef) x) [v7] x := by
      have h := hT 7 _ rfl
      have hh : (fun l x => PtrRow p11 (l.getD 0 undef) x) [e 13] x := h
      rw [show e 13 = v7 from he 7 13 _ rfl rfl] at hh
      exact hh
    have h8 : (fun l x => PtrIs p11 Z (l.getD 0 undef) x) [v7] x := by
      have h := hT 8 _ rfl
      have hh : (fun l x => PtrIs p11 Z (l.getD 0 undef) x) [e 13] x := h
      rw [show e 13 = v7 from he 7 13 _ rfl rfl] at hh
      exact hh
    have h9 : (fun l x => l.getD 0 undef = .int .i64 0) [v9] x := by
      have h := hT 9 _ rfl
      have hh : (fun l x => l.getD 0 undef = .int .i64 0) [e 14] x := h
      rw [show e 14 = v9 from he 9 14 _ rfl rfl] at hh
      exact hh
    have hS : (fun _ x => CL w a b c p9 p11 X Y x) [v7] x := by
      have hh : (fun _ x => CL w a b c p9 p11 X Y x) [e 13] x := hs
      rw [show e 13 = v7 from he 7 13 _ rfl rfl] at hh
      exact hh
    clear hl hT he hbe hs
    rw [show zips [some 32, some 33, some 34, some 35, some 31, some 36, some 37, some 13, none, some 14] [v0, v1, v2, v3, v4, v5, v6, v7, v8, v9] = [(32, v0), (33, v1), (34, v2), (35, v3), (31, v4), (36, v5), (37, v6), (13, v7), (14, v9)] from rfl]
    simp only [fill, List.foldl, Act.put, List.setIfInBounds_toArray, List.set_cons_zero, List.set_cons_succ]
    obtain ⟨p13, rfl, hp13, hr13⟩ := h8
    replace h9 : v9 = .int .i64 0 := h9
    subst h9
    have hz : (fun x => CL w a b c p9 p11 X Y x ∧ x.rowIs p13 24 4 (u64s (limb Z))) x := ⟨hS, hr13⟩
    clear h0 h1 h2 h3 h4 h5 h6 h7 hS hr13
    have E40 : eqw X Y = true := eqw_true (by rw [HX.out, HY.out])
    have E49 : eqw Z 5 = true := eqw_mod (by rw [HZ.out, H2.out, H3.out, fc1]; decide)
    have HE40 : Hid (eqw X Y = true) := E40
    have HE49 : Hid (eqw Z 5 = true) := E49
    clear E40 E49
    go_wp2
    refine wp_region_table (by kernel_rfl) (fun x => CL w a b c p9 p11 X Y x ∧ x.rowIs p13 24 4 (u64s (limb Z))) [(38, wv X), (39, wv Y), (40, .bool true), (41, .bool true), (42, .int .i64 k), (43, .int .i64 k), (44, .bool true), (45, .bool true), (46, .bool true), (47, wv Z), (48, wv 5), (49, .bool true), (50, .bool true), (51, .bool true), (52, .int .i64 0), (53, .bool true), (54, .bool true), (8, .bool true)] (by kernel_rfl) rfl (by kernel_rfl) (by kernel_rfl) ⟨hz.1.drew, hz.2⟩ [(9, .pointer (some ⟨p9, 0, none⟩)), (11, .pointer (some ⟨p11, 0, none⟩)), (10, .int .i64 k), (12, .int .i64 k), (13, .pointer (some ⟨p13, 0, none⟩)), (14, .int .i64 0)] (by intro p hp; simp only [List.mem_cons, List.not_mem_nil, or_false] at hp; rcases hp with rfl | rfl | rfl | rfl | rfl | rfl <;> rfl) (by kernel_rfl) [] (fun p hp => by cases hp) ?_ ?_
    · as_aux_lemma =>
      intro i o d v ho ht s x hs hb hb2 hdep
      have hi : i < 18 := (Array.getElem?_eq_some_iff.1 ho).1
      rcases s18 hi with rfl | rfl | rfl | rfl | rfl | rfl | rfl | rfl | rfl | rfl | rfl | rfl | rfl | rfl | rfl | rfl | rfl | rfl
      · obtain rfl := Option.some.inj (show some _ = some o from ho)
        obtain ⟨rfl, rfl⟩ := Prod.mk.inj (Option.some.inj (show some (_, _) = some (d, v) from ht))
        exact Or.inl ⟨want_none rfl, fun K hK => st_load 9 38 _ _ (hb _ (List.Mem.head _)) hs.1.r9 (hK x hs)⟩
      · obtain rfl := Option.some.inj (show some _ = some o from ho)
        obtain ⟨rfl, rfl⟩ := Prod.mk.inj (Option.some.inj (show some (_, _) = some (d, v) from ht))
        exact Or.inl ⟨want_none rfl, fun K hK => st_load 11 39 _ _ (hb _ (List.Mem.tail _ (List.Mem.head _))) hs.1.r11 (hK x hs)⟩
      · obtain rfl := Option.some.inj (show some _ = some o from ho)
        obtain ⟨rfl, rfl⟩ := Prod.mk.inj (Option.some.inj (show some (_, _) = some (d, v) from ht))
        exact Or.inl ⟨want_none rfl, fun K hK => st_eql 38 39 40 _ _ true (hdep ⟨0, .data⟩ (by simp) rfl _ _ rfl) (hdep ⟨1, .data⟩ (by simp) rfl _ _ rfl) HE40.out (hK x hs)⟩
      · obtain rfl := Option.some.inj (show some _ = some o from ho)
        obtain ⟨rfl, rfl⟩ := Prod.mk.inj (Option.some.inj (show some (_, _) = some (d, v) from ht))
        exact Or.inl ⟨want_none rfl, fun K hK => st_move 40 41 _ (hdep ⟨2, .data⟩ (by simp) rfl _ _ rfl) (hK x hs)⟩
      · obtain rfl := Option.some.inj (show some _ = some o from ho)
        obtain ⟨rfl, rfl⟩ := Prod.mk.inj (Option.some.inj (show some (_, _) = some (d, v) from ht))
        exact Or.inl ⟨want_some rfl rfl rfl (hdep ⟨3, .guard⟩ (by simp) rfl _ _ rfl), fun K hK => st_move 10 42 _ (hb _ (List.Mem.tail _ (List.Mem.tail _ (List.Mem.head _)))) (hK x hs)⟩
      · obtain rfl := Option.some.inj (show some _ = some o from ho)
        obtain ⟨rfl, rfl⟩ := Prod.mk.inj (Option.some.inj (show some (_, _) = some (d, v) from ht))
        exact Or.inl ⟨want_some rfl rfl rfl (hdep ⟨3, .guard⟩ (by simp) rfl _ _ rfl), fun K hK => st_move 12 43 _ (hb _ (List.Mem.tail _ (List.Mem.tail _ (List.Mem.tail _ (List.Mem.head _))))) (hK x hs)⟩
      · obtain rfl := Option.some.inj (show some _ = some o from ho)
        obtain ⟨rfl, rfl⟩ := Prod.mk.inj (Option.some.inj (show some (_, _) = some (d, v) from ht))
        exact Or.inl ⟨want_some rfl rfl rfl (hdep ⟨3, .guard⟩ (by simp) rfl _ _ rfl), fun K hK => st_eqi 42 43 44 k (hdep ⟨4, .data⟩ (by simp) rfl _ _ rfl) (hdep ⟨5, .data⟩ (by simp) rfl _ _ rfl) (hK x hs)⟩
      · obtain rfl := Option.some.inj (show some _ = some o from ho)
        obtain ⟨rfl, rfl⟩ := Prod.mk.inj (Option.some.inj (show some (_, _) = some (d, v) from ht))
        exact Or.inl ⟨want_none rfl, fun K hK => st_pick 41 44 45 (hdep ⟨3, .data⟩ (by simp) rfl _ _ rfl) (hdep ⟨6, .data⟩ (by simp) rfl _ _ rfl) (hK x hs)⟩
      · obtain rfl := Option.some.inj (show some _ = some o from ho)
        obtain ⟨rfl, rfl⟩ := Prod.mk.inj (Option.some.inj (show some (_, _) = some (d, v) from ht))
        exact Or.inl ⟨want_none rfl, fun K hK => st_move 45 46 _ (hdep ⟨7, .data⟩ (by simp) rfl _ _ rfl) (hK x hs)⟩
      · obtain rfl := Option.some.inj (show some _ = some o from ho)
        obtain ⟨rfl, rfl⟩ := Prod.mk.inj (Option.some.inj (show some (_, _) = some (d, v) from ht))
        exact Or.inl ⟨want_some rfl rfl rfl (hdep ⟨8, .guard⟩ (by simp) rfl _ _ rfl), fun K hK => st_load 13 47 _ _ (hb _ (List.Mem.tail _ (List.Mem.tail _ (List.Mem.tail _ (List.Mem.tail _ (List.Mem.head _)))))) hs.2 (hK x hs)⟩
      · obtain rfl := Option.some.inj (show some _ = some o from ho)
        obtain ⟨rfl, rfl⟩ := Prod.mk.inj (Option.some.inj (show some (_, _) = some (d, v) from ht))
        exact Or.inl ⟨want_some rfl rfl rfl (hdep ⟨8, .guard⟩ (by simp) rfl _ _ rfl), fun K hK => st_ret own_Small (ev1 rfl) (rsmall_any 5 (by omega) x) (show Hid (5 = 5) from rfl) (fun x' h1 => hK x' ⟨hs.1.call h1, row_below hs.2 h1⟩)⟩
      · obtain rfl := Option.some.inj (show some _ = some o from ho)
        obtain ⟨rfl, rfl⟩ := Prod.mk.inj (Option.some.inj (show some (_, _) = some (d, v) from ht))
        exact Or.inl ⟨want_some rfl rfl rfl (hdep ⟨8, .guard⟩ (by simp) rfl _ _ rfl), fun K hK => st_eql 47 48 49 _ _ true (hdep ⟨9, .data⟩ (by simp) rfl _ _ rfl) (hdep ⟨10, .data⟩ (by simp) rfl _ _ rfl) HE49.out (hK x hs)⟩
      · obtain rfl := Option.some.inj (show some _ = some o from ho)
        obtain ⟨rfl, rfl⟩ := Prod.mk.inj (Option.some.inj (show some (_, _) = some (d, v) from ht))
        exact Or.inl ⟨want_none rfl, fun K hK => st_pick 46 49 50 (hdep ⟨8, .data⟩ (by simp) rfl _ _ rfl) (hdep ⟨11, .data⟩ (by simp) rfl _ _ rfl) (hK x hs)⟩
      · obtain rfl := Option.some.inj (show some _ = some o from ho)
        obtain ⟨rfl, rfl⟩ := Prod.mk.inj (Option.some.inj (show some (_, _) = some (d, v) from ht))
        exact Or.inl ⟨want_none rfl, fun K hK => st_move 50 51 _ (hdep ⟨12, .data⟩ (by simp) rfl _ _ rfl) (hK x hs)⟩
      · obtain rfl := Option.some.inj (show some _ = some o from ho)
        obtain ⟨rfl, rfl⟩ := Prod.mk.inj (Option.some.inj (show some (_, _) = some (d, v) from ht))
        exact Or.inl ⟨want_some rfl rfl rfl (hdep ⟨13, .guard⟩ (by simp) rfl _ _ rfl), fun K hK => st_move 14 52 _ (hb _ (List.Mem.tail _ (List.Mem.tail _ (List.Mem.tail _ (List.Mem.tail _ (List.Mem.tail _ (List.Mem.head _))))))) (hK x hs)⟩
      · obtain rfl := Option.some.inj (show some _ = some o from ho)
        obtain ⟨rfl, rfl⟩ := Prod.mk.inj (Option.some.inj (show some (_, _) = some (d, v) from ht))
        exact Or.inl ⟨want_some rfl rfl rfl (hdep ⟨13, .guard⟩ (by simp) rfl _ _ rfl), fun K hK => st_eqic 52 53 (hdep ⟨14, .data⟩ (by simp) rfl _ _ rfl) (hK x hs)⟩
      · obtain rfl := Option.some.inj (show some _ = some o from ho)
        obtain ⟨rfl, rfl⟩ := Prod.mk.inj (Option.some.inj (show some (_, _) = some (d, v) from ht))
        exact Or.inl ⟨want_none rfl, fun K hK => st_pick 51 53 54 (hdep ⟨13, .data⟩ (by simp) rfl _ _ rfl) (hdep ⟨15, .data⟩ (by simp) rfl _ _ rfl) (hK x hs)⟩
      · obtain rfl := Option.some.inj (show some _ = some o from ho)
        obtain ⟨rfl, rfl⟩ := Prod.mk.inj (Option.some.inj (show some (_, _) = some (d, v) from ht))
        exact Or.inl ⟨want_none rfl, fun K hK => st_assign 54 8 _ (hdep ⟨16, .data⟩ (by simp) rfl _ _ rfl) (hK x hs)⟩
    · intro x2 hz2
      simp only [fill, List.foldl, Act.put, List.setIfInBounds_toArray, List.set_cons_zero, List.set_cons_succ]
      go_wp2
      exact bodyPost_ret (v := .bool true) (by simp [results, Try.results3, go_sem]) rfl ⟨rfl, hz2.1.be⟩
end cin
end Go.Proofs.Ytohoajjdoihekaa
