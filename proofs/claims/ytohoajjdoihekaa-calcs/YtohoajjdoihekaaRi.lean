/-
  The walk of the document's answer: the operations by division.
-/
import Derived.Test.YtohoajjdoihekaaSt5
set_option linter.unusedVariables false
set_option linter.unusedSimpArgs false
namespace Go.Proofs.Ytohoajjdoihekaa
open Go.RowKit
namespace cin
theorem p11 {i : Nat} (h : i < 11) : i = 0 ∨ i = 1 ∨ i = 2 ∨ i = 3 ∨ i = 4 ∨ i = 5 ∨ i = 6 ∨ i = 7 ∨ i = 8 ∨ i = 9 ∨ i = 10 := by omega
theorem len11 {vs : List Value} (h : vs.length = 11) : ∃ v0 v1 v2 v3 v4 v5 v6 v7 v8 v9 v10 : Value, vs = [v0, v1, v2, v3, v4, v5, v6, v7, v8, v9, v10] := by
  match vs, h with
  | [v0, v1, v2, v3, v4, v5, v6, v7, v8, v9, v10], _ => exact ⟨v0, v1, v2, v3, v4, v5, v6, v7, v8, v9, v10, rfl⟩
theorem p12 {i : Nat} (h : i < 12) : i = 0 ∨ i = 1 ∨ i = 2 ∨ i = 3 ∨ i = 4 ∨ i = 5 ∨ i = 6 ∨ i = 7 ∨ i = 8 ∨ i = 9 ∨ i = 10 ∨ i = 11 := by omega
theorem len12 {vs : List Value} (h : vs.length = 12) : ∃ v0 v1 v2 v3 v4 v5 v6 v7 v8 v9 v10 v11 : Value, vs = [v0, v1, v2, v3, v4, v5, v6, v7, v8, v9, v10, v11] := by
  match vs, h with
  | [v0, v1, v2, v3, v4, v5, v6, v7, v8, v9, v10, v11], _ => exact ⟨v0, v1, v2, v3, v4, v5, v6, v7, v8, v9, v10, v11, rfl⟩
theorem p13 {i : Nat} (h : i < 13) : i = 0 ∨ i = 1 ∨ i = 2 ∨ i = 3 ∨ i = 4 ∨ i = 5 ∨ i = 6 ∨ i = 7 ∨ i = 8 ∨ i = 9 ∨ i = 10 ∨ i = 11 ∨ i = 12 := by omega
theorem len13 {vs : List Value} (h : vs.length = 13) : ∃ v0 v1 v2 v3 v4 v5 v6 v7 v8 v9 v10 v11 v12 : Value, vs = [v0, v1, v2, v3, v4, v5, v6, v7, v8, v9, v10, v11, v12] := by
  match vs, h with
  | [v0, v1, v2, v3, v4, v5, v6, v7, v8, v9, v10, v11, v12], _ => exact ⟨v0, v1, v2, v3, v4, v5, v6, v7, v8, v9, v10, v11, v12, rfl⟩
theorem p14 {i : Nat} (h : i < 14) : i = 0 ∨ i = 1 ∨ i = 2 ∨ i = 3 ∨ i = 4 ∨ i = 5 ∨ i = 6 ∨ i = 7 ∨ i = 8 ∨ i = 9 ∨ i = 10 ∨ i = 11 ∨ i = 12 ∨ i = 13 := by omega
theorem len14 {vs : List Value} (h : vs.length = 14) : ∃ v0 v1 v2 v3 v4 v5 v6 v7 v8 v9 v10 v11 v12 v13 : Value, vs = [v0, v1, v2, v3, v4, v5, v6, v7, v8, v9, v10, v11, v12, v13] := by
  match vs, h with
  | [v0, v1, v2, v3, v4, v5, v6, v7, v8, v9, v10, v11, v12, v13], _ => exact ⟨v0, v1, v2, v3, v4, v5, v6, v7, v8, v9, v10, v11, v12, v13, rfl⟩
set_option maxRecDepth 100000 in
set_option maxHeartbeats 8000000 in
theorem rdiv_any (a b c : Nat) (ha : Hid (a < M)) (hb0 : Hid (b < M)) (hc0 : Hid (c < M)) (w : World) : Calls Try.prog 19 #[.int .u8 4, wv a, wv b, wv c] w (Ret w (fdiv a b)) := by
  have hs := RC.start w a b c
  have hy := (row_lit4 (t := 24) (limb b) (w := ((((w.alloc (.cells #[.int .u64 (limb a 0), .int .u64 (limb a 1), .int .u64 (limb a 2), .int .u64 (limb a 3)] 24)).alloc (.cells #[.int .u64 (limb b 0), .int .u64 (limb b 1), .int .u64 (limb b 2), .int .u64 (limb b 3)] 24)).alloc (.cells #[.int .u64 (limb c 0), .int .u64 (limb c 1), .int .u64 (limb c 2), .int .u64 (limb c 3)] 24)).alloc (.cells #[.int .u64 0, .int .u64 0, .int .u64 0, .int .u64 0] 24))) rfl rfl rfl rfl rfl)
  clear hy
  go_enter Try.func19, Try.ntmps19
  go_wp2_with fail
  refine (risz_any b _).mono ?_
  rintro e w1 ⟨rfl, hb⟩
  replace hs := RC.call (RC.alloc hs _) hb
  clear hb
  by_cases hz : b = 0
  · as_aux_lemma =>
    have HZ : Hid (fdiv a b = 0) := by show _ = _; rw [hz]; exact rk_div0 a
    have hd : decide (b % M = 0) = true := decide_eq_true (by rw [hz]; rfl)
    rw [hd]
    clear hd hz
    go_wp2_with fail
    refine (rsmall_any 0 (by omega) _).mono ?_
    rintro e w2 ⟨s, HS, rfl, hb⟩
    replace hs := hs.call hb
    clear hb
    have hrz := hs.rz
    have hbel := hs.be
    obtain ⟨x0, x1, x2, x3⟩ := row_cells4 hrz
    have fz := hrz.frozen
    go_wp2
    obtain ⟨q0, q1, q2, q3⟩ := row_cells4 (row_put4 hrz (limb s) rfl rfl rfl rfl)
    refine bodyPost_ret (v := wv s) (by simp [results, Try.results19, go_sem, q0, q1, q2, q3]) rfl (ret_mk (by rw [HS.out, HZ.out]) ?_)
    exact below_put4 hbel (by omega) _ _ _ _
  · as_aux_lemma =>
    have hd : decide (b % M = 0) = false := decide_eq_false (by rw [Nat.mod_eq_of_lt hb0.out]; exact hz)
    rw [hd]
    have hb1 : Hid (0 < b) := Nat.pos_of_ne_zero hz
    clear hd hz
    obtain ⟨q, HQ⟩ : ∃ q, Hid (q = a / b) := ⟨_, rfl⟩
    obtain ⟨r, HR⟩ : ∃ r, Hid (r = a % b) := ⟨_, rfl⟩
    go_wp2
    refine wp_region_fr (by kernel_rfl) [11, 12] (fun l x => RC w a b c x ∧ Two x (l.getD 0 undef) (l.getD 1 undef)) (fun i l x x' => if i = 9 then Stored (w.heap.size + 1 + 1 + 1) (l.getD 0 undef) x x' else if i = 10 then Stored (w.heap.size + 1 + 1 + 1) (l.getD 1 undef) x x' else Below x.heap.size x x') [⟨some 33, [33], fun l x => l.getD 0 undef = wv a⟩, ⟨some 34, [34], fun l x => SliceOf 256 a (l.getD 0 undef) x⟩, ⟨some 35, [35], fun l x => l.getD 0 undef = wv b⟩, ⟨some 36, [36], fun l x => l.getD 0 undef = .tuple #[wv q, wv r]⟩, ⟨some 32, [32], fun l x => l.getD 0 undef = .tuple #[wv q, wv r]⟩, ⟨some 37, [37], fun l x => l.getD 0 undef = wv q⟩, ⟨some 38, [38], fun l x => l.getD 0 undef = wv r⟩, ⟨some 11, [11], fun l x => PtrRow (w.heap.size + 1 + 1 + 1) (l.getD 0 undef) x⟩, ⟨some 12, [12], fun l x => PtrRow (w.heap.size + 1 + 1 + 1) (l.getD 0 undef) x⟩, ⟨none, [11], fun l x => PtrIs (w.heap.size + 1 + 1 + 1) q (l.getD 0 undef) x⟩, ⟨none, [12], fun l x => PtrIs (w.heap.size + 1 + 1 + 1) r (l.getD 0 undef) x⟩] [some 33, some 34, some 35, some 36, some 32, some 37, some 38, some 11, some 12, none, none] rfl (by kernel_rfl) (by kernel_rfl) rfl (by kernel_rfl) (by kernel_rfl) ⟨hs.drew, two_undef _⟩ [(5, .pointer (some ⟨w.heap.size, 0, none⟩)), (6, .pointer (some ⟨w.heap.size + 1, 0, none⟩)), (7, .pointer (some ⟨w.heap.size + 1 + 1, 0, none⟩))] (by intro p hp; simp only [List.mem_cons, List.not_mem_nil, or_false] at hp; rcases hp with rfl | rfl | rfl <;> rfl) (by kernel_rfl) ?_ ?_ ?_
    · as_aux_lemma =>
      intro i j t h hij e x x' hs hr ht
      have hj : j < 11 := (List.getElem?_eq_some_iff.1 h).1
      rcases p11 hj with rfl | rfl | rfl | rfl | rfl | rfl | rfl | rfl | rfl | rfl | rfl <;> obtain rfl := Option.some.inj (show some _ = some t from h) <;> (by_cases i1 : i = 9; (rw [if_pos i1] at hr; first | exact absurd i1 hij | exact ht | exact ht.stored hr | exact ht.stored hr (fun p q e1 e2 => (hs.2.2.2 q p e2 e1).symm)); (rw [if_neg i1] at hr; by_cases i2 : i = 10; (rw [if_pos i2] at hr; first | exact absurd i2 hij | exact ht | exact ht.stored hr | exact ht.stored hr (fun p q e1 e2 => hs.2.2.2 p q e1 e2)); (rw [if_neg i2] at hr; first | exact ht | exact ht.below hr)))
    · as_aux_lemma =>
      intro i o t ho ht s x hs hb hdep
      have hi : i < 11 := (Array.getElem?_eq_some_iff.1 ho).1
      rcases p11 hi with rfl | rfl | rfl | rfl | rfl | rfl | rfl | rfl | rfl | rfl | rfl
      · obtain rfl := Option.some.inj (show some _ = some o from ho)
        obtain rfl := Option.some.inj (show some _ = some t from ht)
        exact ⟨want_none rfl, fun K hK => st_load 5 33 _ _ (hb _ (List.Mem.head _)) hs.1.ra (hK _ x hs (Below.refl _ _) rfl)⟩
      · obtain rfl := Option.some.inj (show some _ = some o from ho)
        obtain rfl := Option.some.inj (show some _ = some t from ht)
        exact ⟨want_none rfl, fun K hK => st_bitsOf 33 34 a (hdep ⟨0, .data⟩ (by simp) rfl _ rfl) (fun v x' h1 h2 => hK v x' ⟨hs.1.call h1, hs.2.mono h1.size⟩ h1 h2)⟩
      · obtain rfl := Option.some.inj (show some _ = some o from ho)
        obtain rfl := Option.some.inj (show some _ = some t from ht)
        exact ⟨want_none rfl, fun K hK => st_load 6 35 _ _ (hb _ (List.Mem.tail _ (List.Mem.head _))) hs.1.rb (hK _ x hs (Below.refl _ _) rfl)⟩
      · obtain rfl := Option.some.inj (show some _ = some o from ho)
        obtain rfl := Option.some.inj (show some _ = some t from ht)
        exact ⟨want_none rfl, fun K hK => st_divide 34 35 36 a b 256 q r (by omega) (hi256 ha.out) hb0 hb1 HQ HR (hdep ⟨1, .data⟩ (by simp) rfl _ rfl) (hdep ⟨2, .data⟩ (by simp) rfl _ rfl) (fun x' h1 => hK _ x' ⟨hs.1.call h1, hs.2.mono h1.size⟩ h1 rfl)⟩
      · obtain rfl := Option.some.inj (show some _ = some o from ho)
        obtain rfl := Option.some.inj (show some _ = some t from ht)
        exact ⟨want_none rfl, fun K hK => st_move 36 32 _ (hdep ⟨3, .data⟩ (by simp) rfl _ rfl) (hK _ x hs (Below.refl _ _) rfl)⟩
      · obtain rfl := Option.some.inj (show some _ = some o from ho)
        obtain rfl := Option.some.inj (show some _ = some t from ht)
        exact ⟨want_none rfl, fun K hK => st_ext0 32 37 _ _ (hdep ⟨4, .data⟩ (by simp) rfl _ rfl) (hK _ x hs (Below.refl _ _) rfl)⟩
      · obtain rfl := Option.some.inj (show some _ = some o from ho)
        obtain rfl := Option.some.inj (show some _ = some t from ht)
        exact ⟨want_none rfl, fun K hK => st_ext1 32 38 _ _ (hdep ⟨4, .data⟩ (by simp) rfl _ rfl) (hK _ x hs (Below.refl _ _) rfl)⟩
      · obtain rfl := Option.some.inj (show some _ = some o from ho)
        obtain rfl := Option.some.inj (show some _ = some t from ht)
        exact ⟨want_none rfl, fun K hK => st_alloc 11 (hK _ _ ⟨hs.1.alloc _, hs.2.fst _⟩ (bel_alloc _ _) ⟨_, _, rfl, hs.1.rz.lt, row_lit4 (fun _ => 0) rfl rfl rfl rfl rfl⟩)⟩
      · obtain rfl := Option.some.inj (show some _ = some o from ho)
        obtain rfl := Option.some.inj (show some _ = some t from ht)
        exact ⟨want_none rfl, fun K hK => st_alloc 12 (hK _ _ ⟨hs.1.alloc _, hs.2.snd _⟩ (bel_alloc _ _) ⟨_, _, rfl, hs.1.rz.lt, row_lit4 (fun _ => 0) rfl rfl rfl rfl rfl⟩)⟩
      · obtain rfl := Option.some.inj (show some _ = some o from ho)
        obtain rfl := Option.some.inj (show some _ = some t from ht)
        exact ⟨want_none rfl, fun K hK => by obtain ⟨p, f, hp1, hp2, hp3⟩ := (hdep ⟨7, .data⟩ (by simp) rfl _ rfl); exact st_storew hp1 (hdep ⟨5, .data⟩ (by simp) rfl _ rfl) hp3 fun x' h1 h2 => hK undef x' ⟨hs.1.put hp2 h2, hs.2.mono (Nat.le_of_eq (put4_size h2).symm)⟩ ⟨p, f, _, _, _, _, hp1, hp2, hp3, h2⟩ ⟨p, hp1, hp2, h1⟩⟩
      · obtain rfl := Option.some.inj (show some _ = some o from ho)
        obtain rfl := Option.some.inj (show some _ = some t from ht)
        exact ⟨want_none rfl, fun K hK => by obtain ⟨p, f, hp1, hp2, hp3⟩ := (hdep ⟨8, .data⟩ (by simp) rfl _ rfl); exact st_storew hp1 (hdep ⟨6, .data⟩ (by simp) rfl _ rfl) hp3 fun x' h1 h2 => hK undef x' ⟨hs.1.put hp2 h2, hs.2.mono (Nat.le_of_eq (put4_size h2).symm)⟩ ⟨p, f, _, _, _, _, hp1, hp2, hp3, h2⟩ ⟨p, hp1, hp2, h1⟩⟩
    · intro e vs x hl he hbe hs hT
      obtain ⟨v0, v1, v2, v3, v4, v5, v6, v7, v8, v9, v10, rfl⟩ := len11 hl
      have h0 : (fun l x => l.getD 0 undef = wv a) [v0] x := by
        have h := hT 0 _ rfl
        have hh : (fun l x => l.getD 0 undef = wv a) [e 33] x := h
        rw [show e 33 = v0 from he 0 33 _ rfl rfl] at hh
        exact hh
      have h1 : (fun l x => SliceOf 256 a (l.getD 0 undef) x) [v1] x := by
        have h := hT 1 _ rfl
        have hh : (fun l x => SliceOf 256 a (l.getD 0 undef) x) [e 34] x := h
        rw [show e 34 = v1 from he 1 34 _ rfl rfl] at hh
        exact hh
      have h2 : (fun l x => l.getD 0 undef = wv b) [v2] x := by
        have h := hT 2 _ rfl
        have hh : (fun l x => l.getD 0 undef = wv b) [e 35] x := h
        rw [show e 35 = v2 from he 2 35 _ rfl rfl] at hh
        exact hh
      have h3 : (fun l x => l.getD 0 undef = .tuple #[wv q, wv r]) [v3] x := by
        have h := hT 3 _ rfl
        have hh : (fun l x => l.getD 0 undef = .tuple #[wv q, wv r]) [e 36] x := h
        rw [show e 36 = v3 from he 3 36 _ rfl rfl] at hh
        exact hh
      have h4 : (fun l x => l.getD 0 undef = .tuple #[wv q, wv r]) [v4] x := by
        have h := hT 4 _ rfl
        have hh : (fun l x => l.getD 0 undef = .tuple #[wv q, wv r]) [e 32] x := h
        rw [show e 32 = v4 from he 4 32 _ rfl rfl] at hh
        exact hh
      have h5 : (fun l x => l.getD 0 undef = wv q) [v5] x := by
        have h := hT 5 _ rfl
        have hh : (fun l x => l.getD 0 undef = wv q) [e 37] x := h
        rw [show e 37 = v5 from he 5 37 _ rfl rfl] at hh
        exact hh
      have h6 : (fun l x => l.getD 0 undef = wv r) [v6] x := by
        have h := hT 6 _ rfl
        have hh : (fun l x => l.getD 0 undef = wv r) [e 38] x := h
        rw [show e 38 = v6 from he 6 38 _ rfl rfl] at hh
        exact hh
      have h7 : (fun l x => PtrRow (w.heap.size + 1 + 1 + 1) (l.getD 0 undef) x) [v7] x := by
        have h := hT 7 _ rfl
        have hh : (fun l x => PtrRow (w.heap.size + 1 + 1 + 1) (l.getD 0 undef) x) [e 11] x := h
        rw [show e 11 = v7 from he 7 11 _ rfl rfl] at hh
        exact hh
      have h8 : (fun l x => PtrRow (w.heap.size + 1 + 1 + 1) (l.getD 0 undef) x) [v8] x := by
        have h := hT 8 _ rfl
        have hh : (fun l x => PtrRow (w.heap.size + 1 + 1 + 1) (l.getD 0 undef) x) [e 12] x := h
        rw [show e 12 = v8 from he 8 12 _ rfl rfl] at hh
        exact hh
      have h9 : (fun l x => PtrIs (w.heap.size + 1 + 1 + 1) q (l.getD 0 undef) x) [v7] x := by
        have h := hT 9 _ rfl
        have hh : (fun l x => PtrIs (w.heap.size + 1 + 1 + 1) q (l.getD 0 undef) x) [e 11] x := h
        rw [show e 11 = v7 from he 7 11 _ rfl rfl] at hh
        exact hh
      have h10 : (fun l x => PtrIs (w.heap.size + 1 + 1 + 1) r (l.getD 0 undef) x) [v8] x := by
        have h := hT 10 _ rfl
        have hh : (fun l x => PtrIs (w.heap.size + 1 + 1 + 1) r (l.getD 0 undef) x) [e 12] x := h
        rw [show e 12 = v8 from he 8 12 _ rfl rfl] at hh
        exact hh
      have hS : (fun l x => RC w a b c x ∧ Two x (l.getD 0 undef) (l.getD 1 undef)) [v7, v8] x := by
        have hh : (fun l x => RC w a b c x ∧ Two x (l.getD 0 undef) (l.getD 1 undef)) [e 11, e 12] x := hs
        rw [show e 11 = v7 from he 7 11 _ rfl rfl] at hh
        rw [show e 12 = v8 from he 8 12 _ rfl rfl] at hh
        exact hh
      clear hl hT he hbe hs
      rw [show zips [some 33, some 34, some 35, some 36, some 32, some 37, some 38, some 11, some 12, none, none] [v0, v1, v2, v3, v4, v5, v6, v7, v8, v9, v10] = [(33, v0), (34, v1), (35, v2), (36, v3), (32, v4), (37, v5), (38, v6), (11, v7), (12, v8)] from rfl]
      simp only [fill, List.foldl, Act.put, List.setIfInBounds_toArray, List.set_cons_zero, List.set_cons_succ]
      obtain ⟨p, rfl, hp, hrow⟩ := h9
      have hrz := hS.1.rz
      have hbel := hS.1.be
      clear h0 h1 h2 h3 h4 h5 h6 h7 h8 h10 hS hs
      obtain ⟨y0, y1, y2, y3⟩ := row_cells4 hrow
      obtain ⟨x0, x1, x2, x3⟩ := row_cells4 hrz
      have fz := hrz.frozen
      go_wp2
      obtain ⟨q0, q1, q2, q3⟩ := row_cells4 (row_put4 hrz (limb q) rfl rfl rfl rfl)
      refine bodyPost_ret (v := wv q) (by simp [results, Try.results19, go_sem, q0, q1, q2, q3]) rfl (ret_mk (by rw [HQ.out]; rfl) ?_)
      exact below_put4 hbel (by omega) _ _ _ _
set_option maxRecDepth 100000 in
set_option maxHeartbeats 8000000 in
theorem rmod_any (a b c : Nat) (ha : Hid (a < M)) (hb0 : Hid (b < M)) (hc0 : Hid (c < M)) (w : World) : Calls Try.prog 19 #[.int .u8 6, wv a, wv b, wv c] w (Ret w (fmod a b)) := by
  have hs := RC.start w a b c
  have hy := (row_lit4 (t := 24) (limb b) (w := ((((w.alloc (.cells #[.int .u64 (limb a 0), .int .u64 (limb a 1), .int .u64 (limb a 2), .int .u64 (limb a 3)] 24)).alloc (.cells #[.int .u64 (limb b 0), .int .u64 (limb b 1), .int .u64 (limb b 2), .int .u64 (limb b 3)] 24)).alloc (.cells #[.int .u64 (limb c 0), .int .u64 (limb c 1), .int .u64 (limb c 2), .int .u64 (limb c 3)] 24)).alloc (.cells #[.int .u64 0, .int .u64 0, .int .u64 0, .int .u64 0] 24))) rfl rfl rfl rfl rfl)
  clear hy
  go_enter Try.func19, Try.ntmps19
  go_wp2_with fail
  refine (risz_any b _).mono ?_
  rintro e w1 ⟨rfl, hb⟩
  replace hs := RC.call (RC.alloc hs _) hb
  clear hb
  by_cases hz : b = 0
  · as_aux_lemma =>
    have HZ : Hid (fmod a b = 0) := by show _ = _; rw [hz]; exact rk_mod0 a
    have hd : decide (b % M = 0) = true := decide_eq_true (by rw [hz]; rfl)
    rw [hd]
    clear hd hz
    go_wp2_with fail
    refine (rsmall_any 0 (by omega) _).mono ?_
    rintro e w2 ⟨s, HS, rfl, hb⟩
    replace hs := hs.call hb
    clear hb
    have hrz := hs.rz
    have hbel := hs.be
    obtain ⟨x0, x1, x2, x3⟩ := row_cells4 hrz
    have fz := hrz.frozen
    go_wp2
    obtain ⟨q0, q1, q2, q3⟩ := row_cells4 (row_put4 hrz (limb s) rfl rfl rfl rfl)
    refine bodyPost_ret (v := wv s) (by simp [results, Try.results19, go_sem, q0, q1, q2, q3]) rfl (ret_mk (by rw [HS.out, HZ.out]) ?_)
    exact below_put4 hbel (by omega) _ _ _ _
  · as_aux_lemma =>
    have hd : decide (b % M = 0) = false := decide_eq_false (by rw [Nat.mod_eq_of_lt hb0.out]; exact hz)
    rw [hd]
    have hb1 : Hid (0 < b) := Nat.pos_of_ne_zero hz
    clear hd hz
    obtain ⟨q, HQ⟩ : ∃ q, Hid (q = a / b) := ⟨_, rfl⟩
    obtain ⟨r, HR⟩ : ∃ r, Hid (r = a % b) := ⟨_, rfl⟩
    go_wp2
    refine wp_region_fr (by kernel_rfl) [13, 14] (fun l x => RC w a b c x ∧ Two x (l.getD 0 undef) (l.getD 1 undef)) (fun i l x x' => if i = 9 then Stored (w.heap.size + 1 + 1 + 1) (l.getD 0 undef) x x' else if i = 10 then Stored (w.heap.size + 1 + 1 + 1) (l.getD 1 undef) x x' else Below x.heap.size x x') [⟨some 43, [43], fun l x => l.getD 0 undef = wv a⟩, ⟨some 44, [44], fun l x => SliceOf 256 a (l.getD 0 undef) x⟩, ⟨some 45, [45], fun l x => l.getD 0 undef = wv b⟩, ⟨some 46, [46], fun l x => l.getD 0 undef = .tuple #[wv q, wv r]⟩, ⟨some 42, [42], fun l x => l.getD 0 undef = .tuple #[wv q, wv r]⟩, ⟨some 47, [47], fun l x => l.getD 0 undef = wv q⟩, ⟨some 48, [48], fun l x => l.getD 0 undef = wv r⟩, ⟨some 13, [13], fun l x => PtrRow (w.heap.size + 1 + 1 + 1) (l.getD 0 undef) x⟩, ⟨some 14, [14], fun l x => PtrRow (w.heap.size + 1 + 1 + 1) (l.getD 0 undef) x⟩, ⟨none, [13], fun l x => PtrIs (w.heap.size + 1 + 1 + 1) q (l.getD 0 undef) x⟩, ⟨none, [14], fun l x => PtrIs (w.heap.size + 1 + 1 + 1) r (l.getD 0 undef) x⟩] [some 43, some 44, some 45, some 46, some 42, some 47, some 48, some 13, some 14, none, none] rfl (by kernel_rfl) (by kernel_rfl) rfl (by kernel_rfl) (by kernel_rfl) ⟨hs.drew, two_undef _⟩ [(5, .pointer (some ⟨w.heap.size, 0, none⟩)), (6, .pointer (some ⟨w.heap.size + 1, 0, none⟩)), (7, .pointer (some ⟨w.heap.size + 1 + 1, 0, none⟩))] (by intro p hp; simp only [List.mem_cons, List.not_mem_nil, or_false] at hp; rcases hp with rfl | rfl | rfl <;> rfl) (by kernel_rfl) ?_ ?_ ?_
    · as_aux_lemma =>
      intro i j t h hij e x x' hs hr ht
      have hj : j < 11 := (List.getElem?_eq_some_iff.1 h).1
      rcases p11 hj with rfl | rfl | rfl | rfl | rfl | rfl | rfl | rfl | rfl | rfl | rfl <;> obtain rfl := Option.some.inj (show some _ = some t from h) <;> (by_cases i1 : i = 9; (rw [if_pos i1] at hr; first | exact absurd i1 hij | exact ht | exact ht.stored hr | exact ht.stored hr (fun p q e1 e2 => (hs.2.2.2 q p e2 e1).symm)); (rw [if_neg i1] at hr; by_cases i2 : i = 10; (rw [if_pos i2] at hr; first | exact absurd i2 hij | exact ht | exact ht.stored hr | exact ht.stored hr (fun p q e1 e2 => hs.2.2.2 p q e1 e2)); (rw [if_neg i2] at hr; first | exact ht | exact ht.below hr)))
    · as_aux_lemma =>
      intro i o t ho ht s x hs hb hdep
      have hi : i < 11 := (Array.getElem?_eq_some_iff.1 ho).1
      rcases p11 hi with rfl | rfl | rfl | rfl | rfl | rfl | rfl | rfl | rfl | rfl | rfl
      · obtain rfl := Option.some.inj (show some _ = some o from ho)
        obtain rfl := Option.some.inj (show some _ = some t from ht)
        exact ⟨want_none rfl, fun K hK => st_load 5 43 _ _ (hb _ (List.Mem.head _)) hs.1.ra (hK _ x hs (Below.refl _ _) rfl)⟩
      · obtain rfl := Option.some.inj (show some _ = some o from ho)
        obtain rfl := Option.some.inj (show some _ = some t from ht)
        exact ⟨want_none rfl, fun K hK => st_bitsOf 43 44 a (hdep ⟨0, .data⟩ (by simp) rfl _ rfl) (fun v x' h1 h2 => hK v x' ⟨hs.1.call h1, hs.2.mono h1.size⟩ h1 h2)⟩
      · obtain rfl := Option.some.inj (show some _ = some o from ho)
        obtain rfl := Option.some.inj (show some _ = some t from ht)
        exact ⟨want_none rfl, fun K hK => st_load 6 45 _ _ (hb _ (List.Mem.tail _ (List.Mem.head _))) hs.1.rb (hK _ x hs (Below.refl _ _) rfl)⟩
      · obtain rfl := Option.some.inj (show some _ = some o from ho)
        obtain rfl := Option.some.inj (show some _ = some t from ht)
        exact ⟨want_none rfl, fun K hK => st_divide 44 45 46 a b 256 q r (by omega) (hi256 ha.out) hb0 hb1 HQ HR (hdep ⟨1, .data⟩ (by simp) rfl _ rfl) (hdep ⟨2, .data⟩ (by simp) rfl _ rfl) (fun x' h1 => hK _ x' ⟨hs.1.call h1, hs.2.mono h1.size⟩ h1 rfl)⟩
      · obtain rfl := Option.some.inj (show some _ = some o from ho)
        obtain rfl := Option.some.inj (show some _ = some t from ht)
        exact ⟨want_none rfl, fun K hK => st_move 46 42 _ (hdep ⟨3, .data⟩ (by simp) rfl _ rfl) (hK _ x hs (Below.refl _ _) rfl)⟩
      · obtain rfl := Option.some.inj (show some _ = some o from ho)
        obtain rfl := Option.some.inj (show some _ = some t from ht)
        exact ⟨want_none rfl, fun K hK => st_ext0 42 47 _ _ (hdep ⟨4, .data⟩ (by simp) rfl _ rfl) (hK _ x hs (Below.refl _ _) rfl)⟩
      · obtain rfl := Option.some.inj (show some _ = some o from ho)
        obtain rfl := Option.some.inj (show some _ = some t from ht)
        exact ⟨want_none rfl, fun K hK => st_ext1 42 48 _ _ (hdep ⟨4, .data⟩ (by simp) rfl _ rfl) (hK _ x hs (Below.refl _ _) rfl)⟩
      · obtain rfl := Option.some.inj (show some _ = some o from ho)
        obtain rfl := Option.some.inj (show some _ = some t from ht)
        exact ⟨want_none rfl, fun K hK => st_alloc 13 (hK _ _ ⟨hs.1.alloc _, hs.2.fst _⟩ (bel_alloc _ _) ⟨_, _, rfl, hs.1.rz.lt, row_lit4 (fun _ => 0) rfl rfl rfl rfl rfl⟩)⟩
      · obtain rfl := Option.some.inj (show some _ = some o from ho)
        obtain rfl := Option.some.inj (show some _ = some t from ht)
        exact ⟨want_none rfl, fun K hK => st_alloc 14 (hK _ _ ⟨hs.1.alloc _, hs.2.snd _⟩ (bel_alloc _ _) ⟨_, _, rfl, hs.1.rz.lt, row_lit4 (fun _ => 0) rfl rfl rfl rfl rfl⟩)⟩
      · obtain rfl := Option.some.inj (show some _ = some o from ho)
        obtain rfl := Option.some.inj (show some _ = some t from ht)
        exact ⟨want_none rfl, fun K hK => by obtain ⟨p, f, hp1, hp2, hp3⟩ := (hdep ⟨7, .data⟩ (by simp) rfl _ rfl); exact st_storew hp1 (hdep ⟨5, .data⟩ (by simp) rfl _ rfl) hp3 fun x' h1 h2 => hK undef x' ⟨hs.1.put hp2 h2, hs.2.mono (Nat.le_of_eq (put4_size h2).symm)⟩ ⟨p, f, _, _, _, _, hp1, hp2, hp3, h2⟩ ⟨p, hp1, hp2, h1⟩⟩
      · obtain rfl := Option.some.inj (show some _ = some o from ho)
        obtain rfl := Option.some.inj (show some _ = some t from ht)
        exact ⟨want_none rfl, fun K hK => by obtain ⟨p, f, hp1, hp2, hp3⟩ := (hdep ⟨8, .data⟩ (by simp) rfl _ rfl); exact st_storew hp1 (hdep ⟨6, .data⟩ (by simp) rfl _ rfl) hp3 fun x' h1 h2 => hK undef x' ⟨hs.1.put hp2 h2, hs.2.mono (Nat.le_of_eq (put4_size h2).symm)⟩ ⟨p, f, _, _, _, _, hp1, hp2, hp3, h2⟩ ⟨p, hp1, hp2, h1⟩⟩
    · intro e vs x hl he hbe hs hT
      obtain ⟨v0, v1, v2, v3, v4, v5, v6, v7, v8, v9, v10, rfl⟩ := len11 hl
      have h0 : (fun l x => l.getD 0 undef = wv a) [v0] x := by
        have h := hT 0 _ rfl
        have hh : (fun l x => l.getD 0 undef = wv a) [e 43] x := h
        rw [show e 43 = v0 from he 0 43 _ rfl rfl] at hh
        exact hh
      have h1 : (fun l x => SliceOf 256 a (l.getD 0 undef) x) [v1] x := by
        have h := hT 1 _ rfl
        have hh : (fun l x => SliceOf 256 a (l.getD 0 undef) x) [e 44] x := h
        rw [show e 44 = v1 from he 1 44 _ rfl rfl] at hh
        exact hh
      have h2 : (fun l x => l.getD 0 undef = wv b) [v2] x := by
        have h := hT 2 _ rfl
        have hh : (fun l x => l.getD 0 undef = wv b) [e 45] x := h
        rw [show e 45 = v2 from he 2 45 _ rfl rfl] at hh
        exact hh
      have h3 : (fun l x => l.getD 0 undef = .tuple #[wv q, wv r]) [v3] x := by
        have h := hT 3 _ rfl
        have hh : (fun l x => l.getD 0 undef = .tuple #[wv q, wv r]) [e 46] x := h
        rw [show e 46 = v3 from he 3 46 _ rfl rfl] at hh
        exact hh
      have h4 : (fun l x => l.getD 0 undef = .tuple #[wv q, wv r]) [v4] x := by
        have h := hT 4 _ rfl
        have hh : (fun l x => l.getD 0 undef = .tuple #[wv q, wv r]) [e 42] x := h
        rw [show e 42 = v4 from he 4 42 _ rfl rfl] at hh
        exact hh
      have h5 : (fun l x => l.getD 0 undef = wv q) [v5] x := by
        have h := hT 5 _ rfl
        have hh : (fun l x => l.getD 0 undef = wv q) [e 47] x := h
        rw [show e 47 = v5 from he 5 47 _ rfl rfl] at hh
        exact hh
      have h6 : (fun l x => l.getD 0 undef = wv r) [v6] x := by
        have h := hT 6 _ rfl
        have hh : (fun l x => l.getD 0 undef = wv r) [e 48] x := h
        rw [show e 48 = v6 from he 6 48 _ rfl rfl] at hh
        exact hh
      have h7 : (fun l x => PtrRow (w.heap.size + 1 + 1 + 1) (l.getD 0 undef) x) [v7] x := by
        have h := hT 7 _ rfl
        have hh : (fun l x => PtrRow (w.heap.size + 1 + 1 + 1) (l.getD 0 undef) x) [e 13] x := h
        rw [show e 13 = v7 from he 7 13 _ rfl rfl] at hh
        exact hh
      have h8 : (fun l x => PtrRow (w.heap.size + 1 + 1 + 1) (l.getD 0 undef) x) [v8] x := by
        have h := hT 8 _ rfl
        have hh : (fun l x => PtrRow (w.heap.size + 1 + 1 + 1) (l.getD 0 undef) x) [e 14] x := h
        rw [show e 14 = v8 from he 8 14 _ rfl rfl] at hh
        exact hh
      have h9 : (fun l x => PtrIs (w.heap.size + 1 + 1 + 1) q (l.getD 0 undef) x) [v7] x := by
        have h := hT 9 _ rfl
        have hh : (fun l x => PtrIs (w.heap.size + 1 + 1 + 1) q (l.getD 0 undef) x) [e 13] x := h
        rw [show e 13 = v7 from he 7 13 _ rfl rfl] at hh
        exact hh
      have h10 : (fun l x => PtrIs (w.heap.size + 1 + 1 + 1) r (l.getD 0 undef) x) [v8] x := by
        have h := hT 10 _ rfl
        have hh : (fun l x => PtrIs (w.heap.size + 1 + 1 + 1) r (l.getD 0 undef) x) [e 14] x := h
        rw [show e 14 = v8 from he 8 14 _ rfl rfl] at hh
        exact hh
      have hS : (fun l x => RC w a b c x ∧ Two x (l.getD 0 undef) (l.getD 1 undef)) [v7, v8] x := by
        have hh : (fun l x => RC w a b c x ∧ Two x (l.getD 0 undef) (l.getD 1 undef)) [e 13, e 14] x := hs
        rw [show e 13 = v7 from he 7 13 _ rfl rfl] at hh
        rw [show e 14 = v8 from he 8 14 _ rfl rfl] at hh
        exact hh
      clear hl hT he hbe hs
      rw [show zips [some 43, some 44, some 45, some 46, some 42, some 47, some 48, some 13, some 14, none, none] [v0, v1, v2, v3, v4, v5, v6, v7, v8, v9, v10] = [(43, v0), (44, v1), (45, v2), (46, v3), (42, v4), (47, v5), (48, v6), (13, v7), (14, v8)] from rfl]
      simp only [fill, List.foldl, Act.put, List.setIfInBounds_toArray, List.set_cons_zero, List.set_cons_succ]
      obtain ⟨p, rfl, hp, hrow⟩ := h10
      have hrz := hS.1.rz
      have hbel := hS.1.be
      clear h0 h1 h2 h3 h4 h5 h6 h7 h8 h9 hS hs
      obtain ⟨y0, y1, y2, y3⟩ := row_cells4 hrow
      obtain ⟨x0, x1, x2, x3⟩ := row_cells4 hrz
      have fz := hrz.frozen
      go_wp2
      obtain ⟨q0, q1, q2, q3⟩ := row_cells4 (row_put4 hrz (limb r) rfl rfl rfl rfl)
      refine bodyPost_ret (v := wv r) (by simp [results, Try.results19, go_sem, q0, q1, q2, q3]) rfl (ret_mk (by rw [HR.out]; unfold fmod; rw [if_neg (Nat.ne_of_gt hb1.out)]) ?_)
      exact below_put4 hbel (by omega) _ _ _ _
set_option maxRecDepth 100000 in
set_option maxHeartbeats 8000000 in
theorem raddmod_any (a b c : Nat) (ha : Hid (a < M)) (hb0 : Hid (b < M)) (hc0 : Hid (c < M)) (w : World) : Calls Try.prog 19 #[.int .u8 8, wv a, wv b, wv c] w (Ret w (faddmod a b c)) := by
  have hs := RC.start w a b c
  have hy := (row_lit4 (t := 24) (limb c) (w := ((((w.alloc (.cells #[.int .u64 (limb a 0), .int .u64 (limb a 1), .int .u64 (limb a 2), .int .u64 (limb a 3)] 24)).alloc (.cells #[.int .u64 (limb b 0), .int .u64 (limb b 1), .int .u64 (limb b 2), .int .u64 (limb b 3)] 24)).alloc (.cells #[.int .u64 (limb c 0), .int .u64 (limb c 1), .int .u64 (limb c 2), .int .u64 (limb c 3)] 24)).alloc (.cells #[.int .u64 0, .int .u64 0, .int .u64 0, .int .u64 0] 24))) rfl rfl rfl rfl rfl)
  clear hy
  go_enter Try.func19, Try.ntmps19
  go_wp2_with fail
  refine (risz_any c _).mono ?_
  rintro e w1 ⟨rfl, hb⟩
  replace hs := RC.call (RC.alloc hs _) hb
  clear hb
  by_cases hz : c = 0
  · as_aux_lemma =>
    have HZ : Hid (faddmod a b c = 0) := by show _ = _; rw [hz]; exact rk_mod0 _
    have hd : decide (c % M = 0) = true := decide_eq_true (by rw [hz]; rfl)
    rw [hd]
    clear hd hz
    go_wp2_with fail
    refine (rsmall_any 0 (by omega) _).mono ?_
    rintro e w2 ⟨s, HS, rfl, hb⟩
    replace hs := hs.call hb
    clear hb
    have hrz := hs.rz
    have hbel := hs.be
    obtain ⟨x0, x1, x2, x3⟩ := row_cells4 hrz
    have fz := hrz.frozen
    go_wp2
    obtain ⟨q0, q1, q2, q3⟩ := row_cells4 (row_put4 hrz (limb s) rfl rfl rfl rfl)
    refine bodyPost_ret (v := wv s) (by simp [results, Try.results19, go_sem, q0, q1, q2, q3]) rfl (ret_mk (by rw [HS.out, HZ.out]) ?_)
    exact below_put4 hbel (by omega) _ _ _ _
  · as_aux_lemma =>
    have hd : decide (c % M = 0) = false := decide_eq_false (by rw [Nat.mod_eq_of_lt hc0.out]; exact hz)
    rw [hd]
    have hc1 : Hid (0 < c) := Nat.pos_of_ne_zero hz
    clear hd hz
    obtain ⟨q, HQ⟩ : ∃ q, Hid (q = (a + b) / c) := ⟨_, rfl⟩
    obtain ⟨r, HR⟩ : ∃ r, Hid (r = (a + b) % c) := ⟨_, rfl⟩
    go_wp2
    refine wp_region_fr (by kernel_rfl) [17, 18] (fun l x => RC w a b c x ∧ Two x (l.getD 0 undef) (l.getD 1 undef)) (fun i l x x' => if i = 12 then Stored (w.heap.size + 1 + 1 + 1) (l.getD 0 undef) x x' else if i = 13 then Stored (w.heap.size + 1 + 1 + 1) (l.getD 1 undef) x x' else Below x.heap.size x x') [⟨some 80, [80], fun l x => l.getD 0 undef = wv a⟩, ⟨some 81, [81], fun l x => SliceOf 256 a (l.getD 0 undef) x⟩, ⟨some 82, [82], fun l x => l.getD 0 undef = wv b⟩, ⟨some 83, [83], fun l x => SliceOf 256 b (l.getD 0 undef) x⟩, ⟨some 84, [84], fun l x => SliceOf 257 (a + b) (l.getD 0 undef) x⟩, ⟨some 85, [85], fun l x => l.getD 0 undef = wv c⟩, ⟨some 86, [86], fun l x => l.getD 0 undef = .tuple #[wv q, wv r]⟩, ⟨some 79, [79], fun l x => l.getD 0 undef = .tuple #[wv q, wv r]⟩, ⟨some 87, [87], fun l x => l.getD 0 undef = wv q⟩, ⟨some 88, [88], fun l x => l.getD 0 undef = wv r⟩, ⟨some 17, [17], fun l x => PtrRow (w.heap.size + 1 + 1 + 1) (l.getD 0 undef) x⟩, ⟨some 18, [18], fun l x => PtrRow (w.heap.size + 1 + 1 + 1) (l.getD 0 undef) x⟩, ⟨none, [17], fun l x => PtrIs (w.heap.size + 1 + 1 + 1) q (l.getD 0 undef) x⟩, ⟨none, [18], fun l x => PtrIs (w.heap.size + 1 + 1 + 1) r (l.getD 0 undef) x⟩] [some 80, some 81, some 82, some 83, some 84, some 85, some 86, some 79, some 87, some 88, some 17, some 18, none, none] rfl (by kernel_rfl) (by kernel_rfl) rfl (by kernel_rfl) (by kernel_rfl) ⟨hs.drew, two_undef _⟩ [(5, .pointer (some ⟨w.heap.size, 0, none⟩)), (6, .pointer (some ⟨w.heap.size + 1, 0, none⟩)), (7, .pointer (some ⟨w.heap.size + 1 + 1, 0, none⟩))] (by intro p hp; simp only [List.mem_cons, List.not_mem_nil, or_false] at hp; rcases hp with rfl | rfl | rfl <;> rfl) (by kernel_rfl) ?_ ?_ ?_
    · as_aux_lemma =>
      intro i j t h hij e x x' hs hr ht
      have hj : j < 14 := (List.getElem?_eq_some_iff.1 h).1
      rcases p14 hj with rfl | rfl | rfl | rfl | rfl | rfl | rfl | rfl | rfl | rfl | rfl | rfl | rfl | rfl <;> obtain rfl := Option.some.inj (show some _ = some t from h) <;> (by_cases i1 : i = 12; (rw [if_pos i1] at hr; first | exact absurd i1 hij | exact ht | exact ht.stored hr | exact ht.stored hr (fun p q e1 e2 => (hs.2.2.2 q p e2 e1).symm)); (rw [if_neg i1] at hr; by_cases i2 : i = 13; (rw [if_pos i2] at hr; first | exact absurd i2 hij | exact ht | exact ht.stored hr | exact ht.stored hr (fun p q e1 e2 => hs.2.2.2 p q e1 e2)); (rw [if_neg i2] at hr; first | exact ht | exact ht.below hr)))
    · as_aux_lemma =>
      intro i o t ho ht s x hs hb hdep
      have hi : i < 14 := (Array.getElem?_eq_some_iff.1 ho).1
      rcases p14 hi with rfl | rfl | rfl | rfl | rfl | rfl | rfl | rfl | rfl | rfl | rfl | rfl | rfl | rfl
      · obtain rfl := Option.some.inj (show some _ = some o from ho)
        obtain rfl := Option.some.inj (show some _ = some t from ht)
        exact ⟨want_none rfl, fun K hK => st_load 5 80 _ _ (hb _ (List.Mem.head _)) hs.1.ra (hK _ x hs (Below.refl _ _) rfl)⟩
      · obtain rfl := Option.some.inj (show some _ = some o from ho)
        obtain rfl := Option.some.inj (show some _ = some t from ht)
        exact ⟨want_none rfl, fun K hK => st_bitsOf 80 81 a (hdep ⟨0, .data⟩ (by simp) rfl _ rfl) (fun v x' h1 h2 => hK v x' ⟨hs.1.call h1, hs.2.mono h1.size⟩ h1 h2)⟩
      · obtain rfl := Option.some.inj (show some _ = some o from ho)
        obtain rfl := Option.some.inj (show some _ = some t from ht)
        exact ⟨want_none rfl, fun K hK => st_load 6 82 _ _ (hb _ (List.Mem.tail _ (List.Mem.head _))) hs.1.rb (hK _ x hs (Below.refl _ _) rfl)⟩
      · obtain rfl := Option.some.inj (show some _ = some o from ho)
        obtain rfl := Option.some.inj (show some _ = some t from ht)
        exact ⟨want_none rfl, fun K hK => st_bitsOf 82 83 b (hdep ⟨2, .data⟩ (by simp) rfl _ rfl) (fun v x' h1 h2 => hK v x' ⟨hs.1.call h1, hs.2.mono h1.size⟩ h1 h2)⟩
      · obtain rfl := Option.some.inj (show some _ = some o from ho)
        obtain rfl := Option.some.inj (show some _ = some t from ht)
        exact ⟨want_none rfl, fun K hK => st_addb 81 83 84 a b (lt256 ha.out) (lt256 hb0.out) (hdep ⟨1, .data⟩ (by simp) rfl _ rfl) (hdep ⟨3, .data⟩ (by simp) rfl _ rfl) (fun v x' h1 h2 => hK v x' ⟨hs.1.call h1, hs.2.mono h1.size⟩ h1 h2)⟩
      · obtain rfl := Option.some.inj (show some _ = some o from ho)
        obtain rfl := Option.some.inj (show some _ = some t from ht)
        exact ⟨want_none rfl, fun K hK => st_load 7 85 _ _ (hb _ (List.Mem.tail _ (List.Mem.tail _ (List.Mem.head _)))) hs.1.rc (hK _ x hs (Below.refl _ _) rfl)⟩
      · obtain rfl := Option.some.inj (show some _ = some o from ho)
        obtain rfl := Option.some.inj (show some _ = some t from ht)
        exact ⟨want_none rfl, fun K hK => st_divide 84 85 86 (a + b) c 257 q r (by omega) (hi257 rfl ha.out hb0.out) hc0 hc1 HQ HR (hdep ⟨4, .data⟩ (by simp) rfl _ rfl) (hdep ⟨5, .data⟩ (by simp) rfl _ rfl) (fun x' h1 => hK _ x' ⟨hs.1.call h1, hs.2.mono h1.size⟩ h1 rfl)⟩
      · obtain rfl := Option.some.inj (show some _ = some o from ho)
        obtain rfl := Option.some.inj (show some _ = some t from ht)
        exact ⟨want_none rfl, fun K hK => st_move 86 79 _ (hdep ⟨6, .data⟩ (by simp) rfl _ rfl) (hK _ x hs (Below.refl _ _) rfl)⟩
      · obtain rfl := Option.some.inj (show some _ = some o from ho)
        obtain rfl := Option.some.inj (show some _ = some t from ht)
        exact ⟨want_none rfl, fun K hK => st_ext0 79 87 _ _ (hdep ⟨7, .data⟩ (by simp) rfl _ rfl) (hK _ x hs (Below.refl _ _) rfl)⟩
      · obtain rfl := Option.some.inj (show some _ = some o from ho)
        obtain rfl := Option.some.inj (show some _ = some t from ht)
        exact ⟨want_none rfl, fun K hK => st_ext1 79 88 _ _ (hdep ⟨7, .data⟩ (by simp) rfl _ rfl) (hK _ x hs (Below.refl _ _) rfl)⟩
      · obtain rfl := Option.some.inj (show some _ = some o from ho)
        obtain rfl := Option.some.inj (show some _ = some t from ht)
        exact ⟨want_none rfl, fun K hK => st_alloc 17 (hK _ _ ⟨hs.1.alloc _, hs.2.fst _⟩ (bel_alloc _ _) ⟨_, _, rfl, hs.1.rz.lt, row_lit4 (fun _ => 0) rfl rfl rfl rfl rfl⟩)⟩
      · obtain rfl := Option.some.inj (show some _ = some o from ho)
        obtain rfl := Option.some.inj (show some _ = some t from ht)
        exact ⟨want_none rfl, fun K hK => st_alloc 18 (hK _ _ ⟨hs.1.alloc _, hs.2.snd _⟩ (bel_alloc _ _) ⟨_, _, rfl, hs.1.rz.lt, row_lit4 (fun _ => 0) rfl rfl rfl rfl rfl⟩)⟩
      · obtain rfl := Option.some.inj (show some _ = some o from ho)
        obtain rfl := Option.some.inj (show some _ = some t from ht)
        exact ⟨want_none rfl, fun K hK => by obtain ⟨p, f, hp1, hp2, hp3⟩ := (hdep ⟨10, .data⟩ (by simp) rfl _ rfl); exact st_storew hp1 (hdep ⟨8, .data⟩ (by simp) rfl _ rfl) hp3 fun x' h1 h2 => hK undef x' ⟨hs.1.put hp2 h2, hs.2.mono (Nat.le_of_eq (put4_size h2).symm)⟩ ⟨p, f, _, _, _, _, hp1, hp2, hp3, h2⟩ ⟨p, hp1, hp2, h1⟩⟩
      · obtain rfl := Option.some.inj (show some _ = some o from ho)
        obtain rfl := Option.some.inj (show some _ = some t from ht)
        exact ⟨want_none rfl, fun K hK => by obtain ⟨p, f, hp1, hp2, hp3⟩ := (hdep ⟨11, .data⟩ (by simp) rfl _ rfl); exact st_storew hp1 (hdep ⟨9, .data⟩ (by simp) rfl _ rfl) hp3 fun x' h1 h2 => hK undef x' ⟨hs.1.put hp2 h2, hs.2.mono (Nat.le_of_eq (put4_size h2).symm)⟩ ⟨p, f, _, _, _, _, hp1, hp2, hp3, h2⟩ ⟨p, hp1, hp2, h1⟩⟩
    · intro e vs x hl he hbe hs hT
      obtain ⟨v0, v1, v2, v3, v4, v5, v6, v7, v8, v9, v10, v11, v12, v13, rfl⟩ := len14 hl
      have h0 : (fun l x => l.getD 0 undef = wv a) [v0] x := by
        have h := hT 0 _ rfl
        have hh : (fun l x => l.getD 0 undef = wv a) [e 80] x := h
        rw [show e 80 = v0 from he 0 80 _ rfl rfl] at hh
        exact hh
      have h1 : (fun l x => SliceOf 256 a (l.getD 0 undef) x) [v1] x := by
        have h := hT 1 _ rfl
        have hh : (fun l x => SliceOf 256 a (l.getD 0 undef) x) [e 81] x := h
        rw [show e 81 = v1 from he 1 81 _ rfl rfl] at hh
        exact hh
      have h2 : (fun l x => l.getD 0 undef = wv b) [v2] x := by
        have h := hT 2 _ rfl
        have hh : (fun l x => l.getD 0 undef = wv b) [e 82] x := h
        rw [show e 82 = v2 from he 2 82 _ rfl rfl] at hh
        exact hh
      have h3 : (fun l x => SliceOf 256 b (l.getD 0 undef) x) [v3] x := by
        have h := hT 3 _ rfl
        have hh : (fun l x => SliceOf 256 b (l.getD 0 undef) x) [e 83] x := h
        rw [show e 83 = v3 from he 3 83 _ rfl rfl] at hh
        exact hh
      have h4 : (fun l x => SliceOf 257 (a + b) (l.getD 0 undef) x) [v4] x := by
        have h := hT 4 _ rfl
        have hh : (fun l x => SliceOf 257 (a + b) (l.getD 0 undef) x) [e 84] x := h
        rw [show e 84 = v4 from he 4 84 _ rfl rfl] at hh
        exact hh
      have h5 : (fun l x => l.getD 0 undef = wv c) [v5] x := by
        have h := hT 5 _ rfl
        have hh : (fun l x => l.getD 0 undef = wv c) [e 85] x := h
        rw [show e 85 = v5 from he 5 85 _ rfl rfl] at hh
        exact hh
      have h6 : (fun l x => l.getD 0 undef = .tuple #[wv q, wv r]) [v6] x := by
        have h := hT 6 _ rfl
        have hh : (fun l x => l.getD 0 undef = .tuple #[wv q, wv r]) [e 86] x := h
        rw [show e 86 = v6 from he 6 86 _ rfl rfl] at hh
        exact hh
      have h7 : (fun l x => l.getD 0 undef = .tuple #[wv q, wv r]) [v7] x := by
        have h := hT 7 _ rfl
        have hh : (fun l x => l.getD 0 undef = .tuple #[wv q, wv r]) [e 79] x := h
        rw [show e 79 = v7 from he 7 79 _ rfl rfl] at hh
        exact hh
      have h8 : (fun l x => l.getD 0 undef = wv q) [v8] x := by
        have h := hT 8 _ rfl
        have hh : (fun l x => l.getD 0 undef = wv q) [e 87] x := h
        rw [show e 87 = v8 from he 8 87 _ rfl rfl] at hh
        exact hh
      have h9 : (fun l x => l.getD 0 undef = wv r) [v9] x := by
        have h := hT 9 _ rfl
        have hh : (fun l x => l.getD 0 undef = wv r) [e 88] x := h
        rw [show e 88 = v9 from he 9 88 _ rfl rfl] at hh
        exact hh
      have h10 : (fun l x => PtrRow (w.heap.size + 1 + 1 + 1) (l.getD 0 undef) x) [v10] x := by
        have h := hT 10 _ rfl
        have hh : (fun l x => PtrRow (w.heap.size + 1 + 1 + 1) (l.getD 0 undef) x) [e 17] x := h
        rw [show e 17 = v10 from he 10 17 _ rfl rfl] at hh
        exact hh
      have h11 : (fun l x => PtrRow (w.heap.size + 1 + 1 + 1) (l.getD 0 undef) x) [v11] x := by
        have h := hT 11 _ rfl
        have hh : (fun l x => PtrRow (w.heap.size + 1 + 1 + 1) (l.getD 0 undef) x) [e 18] x := h
        rw [show e 18 = v11 from he 11 18 _ rfl rfl] at hh
        exact hh
      have h12 : (fun l x => PtrIs (w.heap.size + 1 + 1 + 1) q (l.getD 0 undef) x) [v10] x := by
        have h := hT 12 _ rfl
        have hh : (fun l x => PtrIs (w.heap.size + 1 + 1 + 1) q (l.getD 0 undef) x) [e 17] x := h
        rw [show e 17 = v10 from he 10 17 _ rfl rfl] at hh
        exact hh
      have h13 : (fun l x => PtrIs (w.heap.size + 1 + 1 + 1) r (l.getD 0 undef) x) [v11] x := by
        have h := hT 13 _ rfl
        have hh : (fun l x => PtrIs (w.heap.size + 1 + 1 + 1) r (l.getD 0 undef) x) [e 18] x := h
        rw [show e 18 = v11 from he 11 18 _ rfl rfl] at hh
        exact hh
      have hS : (fun l x => RC w a b c x ∧ Two x (l.getD 0 undef) (l.getD 1 undef)) [v10, v11] x := by
        have hh : (fun l x => RC w a b c x ∧ Two x (l.getD 0 undef) (l.getD 1 undef)) [e 17, e 18] x := hs
        rw [show e 17 = v10 from he 10 17 _ rfl rfl] at hh
        rw [show e 18 = v11 from he 11 18 _ rfl rfl] at hh
        exact hh
      clear hl hT he hbe hs
      rw [show zips [some 80, some 81, some 82, some 83, some 84, some 85, some 86, some 79, some 87, some 88, some 17, some 18, none, none] [v0, v1, v2, v3, v4, v5, v6, v7, v8, v9, v10, v11, v12, v13] = [(80, v0), (81, v1), (82, v2), (83, v3), (84, v4), (85, v5), (86, v6), (79, v7), (87, v8), (88, v9), (17, v10), (18, v11)] from rfl]
      simp only [fill, List.foldl, Act.put, List.setIfInBounds_toArray, List.set_cons_zero, List.set_cons_succ]
      obtain ⟨p, rfl, hp, hrow⟩ := h13
      have hrz := hS.1.rz
      have hbel := hS.1.be
      clear h0 h1 h2 h3 h4 h5 h6 h7 h8 h9 h10 h11 h12 hS hs
      obtain ⟨y0, y1, y2, y3⟩ := row_cells4 hrow
      obtain ⟨x0, x1, x2, x3⟩ := row_cells4 hrz
      have fz := hrz.frozen
      go_wp2
      obtain ⟨q0, q1, q2, q3⟩ := row_cells4 (row_put4 hrz (limb r) rfl rfl rfl rfl)
      refine bodyPost_ret (v := wv r) (by simp [results, Try.results19, go_sem, q0, q1, q2, q3]) rfl (ret_mk (by rw [HR.out]; unfold faddmod fmod; rw [if_neg (Nat.ne_of_gt hc1.out)]) ?_)
      exact below_put4 hbel (by omega) _ _ _ _
set_option maxRecDepth 100000 in
set_option maxHeartbeats 8000000 in
theorem rmulmod_any (a b c : Nat) (ha : Hid (a < M)) (hb0 : Hid (b < M)) (hc0 : Hid (c < M)) (w : World) : Calls Try.prog 19 #[.int .u8 9, wv a, wv b, wv c] w (Ret w (fmulmod a b c)) := by
  have hs := RC.start w a b c
  have hy := (row_lit4 (t := 24) (limb c) (w := ((((w.alloc (.cells #[.int .u64 (limb a 0), .int .u64 (limb a 1), .int .u64 (limb a 2), .int .u64 (limb a 3)] 24)).alloc (.cells #[.int .u64 (limb b 0), .int .u64 (limb b 1), .int .u64 (limb b 2), .int .u64 (limb b 3)] 24)).alloc (.cells #[.int .u64 (limb c 0), .int .u64 (limb c 1), .int .u64 (limb c 2), .int .u64 (limb c 3)] 24)).alloc (.cells #[.int .u64 0, .int .u64 0, .int .u64 0, .int .u64 0] 24))) rfl rfl rfl rfl rfl)
  clear hy
  go_enter Try.func19, Try.ntmps19
  go_wp2_with fail
  refine (risz_any c _).mono ?_
  rintro e w1 ⟨rfl, hb⟩
  replace hs := RC.call (RC.alloc hs _) hb
  clear hb
  by_cases hz : c = 0
  · as_aux_lemma =>
    have HZ : Hid (fmulmod a b c = 0) := by show _ = _; rw [hz]; exact rk_mod0 _
    have hd : decide (c % M = 0) = true := decide_eq_true (by rw [hz]; rfl)
    rw [hd]
    clear hd hz
    go_wp2_with fail
    refine (rsmall_any 0 (by omega) _).mono ?_
    rintro e w2 ⟨s, HS, rfl, hb⟩
    replace hs := hs.call hb
    clear hb
    have hrz := hs.rz
    have hbel := hs.be
    obtain ⟨x0, x1, x2, x3⟩ := row_cells4 hrz
    have fz := hrz.frozen
    go_wp2
    obtain ⟨q0, q1, q2, q3⟩ := row_cells4 (row_put4 hrz (limb s) rfl rfl rfl rfl)
    refine bodyPost_ret (v := wv s) (by simp [results, Try.results19, go_sem, q0, q1, q2, q3]) rfl (ret_mk (by rw [HS.out, HZ.out]) ?_)
    exact below_put4 hbel (by omega) _ _ _ _
  · as_aux_lemma =>
    have hd : decide (c % M = 0) = false := decide_eq_false (by rw [Nat.mod_eq_of_lt hc0.out]; exact hz)
    rw [hd]
    have hc1 : Hid (0 < c) := Nat.pos_of_ne_zero hz
    clear hd hz
    obtain ⟨q, HQ⟩ : ∃ q, Hid (q = (a % M * (b % M)) / c) := ⟨_, rfl⟩
    obtain ⟨r, HR⟩ : ∃ r, Hid (r = (a % M * (b % M)) % c) := ⟨_, rfl⟩
    go_wp2
    refine wp_region_fr (by kernel_rfl) [19, 20] (fun l x => RC w a b c x ∧ Two x (l.getD 0 undef) (l.getD 1 undef)) (fun i l x x' => if i = 10 then Stored (w.heap.size + 1 + 1 + 1) (l.getD 0 undef) x x' else if i = 11 then Stored (w.heap.size + 1 + 1 + 1) (l.getD 1 undef) x x' else Below x.heap.size x x') [⟨some 91, [91], fun l x => l.getD 0 undef = wv a⟩, ⟨some 92, [92], fun l x => l.getD 0 undef = wv b⟩, ⟨some 93, [93], fun l x => SliceOf 512 (a % M * (b % M)) (l.getD 0 undef) x⟩, ⟨some 94, [94], fun l x => l.getD 0 undef = wv c⟩, ⟨some 95, [95], fun l x => l.getD 0 undef = .tuple #[wv q, wv r]⟩, ⟨some 90, [90], fun l x => l.getD 0 undef = .tuple #[wv q, wv r]⟩, ⟨some 96, [96], fun l x => l.getD 0 undef = wv q⟩, ⟨some 97, [97], fun l x => l.getD 0 undef = wv r⟩, ⟨some 19, [19], fun l x => PtrRow (w.heap.size + 1 + 1 + 1) (l.getD 0 undef) x⟩, ⟨some 20, [20], fun l x => PtrRow (w.heap.size + 1 + 1 + 1) (l.getD 0 undef) x⟩, ⟨none, [19], fun l x => PtrIs (w.heap.size + 1 + 1 + 1) q (l.getD 0 undef) x⟩, ⟨none, [20], fun l x => PtrIs (w.heap.size + 1 + 1 + 1) r (l.getD 0 undef) x⟩] [some 91, some 92, some 93, some 94, some 95, some 90, some 96, some 97, some 19, some 20, none, none] rfl (by kernel_rfl) (by kernel_rfl) rfl (by kernel_rfl) (by kernel_rfl) ⟨hs.drew, two_undef _⟩ [(5, .pointer (some ⟨w.heap.size, 0, none⟩)), (6, .pointer (some ⟨w.heap.size + 1, 0, none⟩)), (7, .pointer (some ⟨w.heap.size + 1 + 1, 0, none⟩))] (by intro p hp; simp only [List.mem_cons, List.not_mem_nil, or_false] at hp; rcases hp with rfl | rfl | rfl <;> rfl) (by kernel_rfl) ?_ ?_ ?_
    · as_aux_lemma =>
      intro i j t h hij e x x' hs hr ht
      have hj : j < 12 := (List.getElem?_eq_some_iff.1 h).1
      rcases p12 hj with rfl | rfl | rfl | rfl | rfl | rfl | rfl | rfl | rfl | rfl | rfl | rfl <;> obtain rfl := Option.some.inj (show some _ = some t from h) <;> (by_cases i1 : i = 10; (rw [if_pos i1] at hr; first | exact absurd i1 hij | exact ht | exact ht.stored hr | exact ht.stored hr (fun p q e1 e2 => (hs.2.2.2 q p e2 e1).symm)); (rw [if_neg i1] at hr; by_cases i2 : i = 11; (rw [if_pos i2] at hr; first | exact absurd i2 hij | exact ht | exact ht.stored hr | exact ht.stored hr (fun p q e1 e2 => hs.2.2.2 p q e1 e2)); (rw [if_neg i2] at hr; first | exact ht | exact ht.below hr)))
    · as_aux_lemma =>
      intro i o t ho ht s x hs hb hdep
      have hi : i < 12 := (Array.getElem?_eq_some_iff.1 ho).1
      rcases p12 hi with rfl | rfl | rfl | rfl | rfl | rfl | rfl | rfl | rfl | rfl | rfl | rfl
      · obtain rfl := Option.some.inj (show some _ = some o from ho)
        obtain rfl := Option.some.inj (show some _ = some t from ht)
        exact ⟨want_none rfl, fun K hK => st_load 5 91 _ _ (hb _ (List.Mem.head _)) hs.1.ra (hK _ x hs (Below.refl _ _) rfl)⟩
      · obtain rfl := Option.some.inj (show some _ = some o from ho)
        obtain rfl := Option.some.inj (show some _ = some t from ht)
        exact ⟨want_none rfl, fun K hK => st_load 6 92 _ _ (hb _ (List.Mem.tail _ (List.Mem.head _))) hs.1.rb (hK _ x hs (Below.refl _ _) rfl)⟩
      · obtain rfl := Option.some.inj (show some _ = some o from ho)
        obtain rfl := Option.some.inj (show some _ = some t from ht)
        exact ⟨want_none rfl, fun K hK => st_product 91 92 93 a b (hdep ⟨0, .data⟩ (by simp) rfl _ rfl) (hdep ⟨1, .data⟩ (by simp) rfl _ rfl) (fun v x' h1 h2 => hK v x' ⟨hs.1.call h1, hs.2.mono h1.size⟩ h1 h2)⟩
      · obtain rfl := Option.some.inj (show some _ = some o from ho)
        obtain rfl := Option.some.inj (show some _ = some t from ht)
        exact ⟨want_none rfl, fun K hK => st_load 7 94 _ _ (hb _ (List.Mem.tail _ (List.Mem.tail _ (List.Mem.head _)))) hs.1.rc (hK _ x hs (Below.refl _ _) rfl)⟩
      · obtain rfl := Option.some.inj (show some _ = some o from ho)
        obtain rfl := Option.some.inj (show some _ = some t from ht)
        exact ⟨want_none rfl, fun K hK => st_divide 93 94 95 (a % M * (b % M)) c 512 q r (by omega) (hi512m _ a b rfl) hc0 hc1 HQ HR (hdep ⟨2, .data⟩ (by simp) rfl _ rfl) (hdep ⟨3, .data⟩ (by simp) rfl _ rfl) (fun x' h1 => hK _ x' ⟨hs.1.call h1, hs.2.mono h1.size⟩ h1 rfl)⟩
      · obtain rfl := Option.some.inj (show some _ = some o from ho)
        obtain rfl := Option.some.inj (show some _ = some t from ht)
        exact ⟨want_none rfl, fun K hK => st_move 95 90 _ (hdep ⟨4, .data⟩ (by simp) rfl _ rfl) (hK _ x hs (Below.refl _ _) rfl)⟩
      · obtain rfl := Option.some.inj (show some _ = some o from ho)
        obtain rfl := Option.some.inj (show some _ = some t from ht)
        exact ⟨want_none rfl, fun K hK => st_ext0 90 96 _ _ (hdep ⟨5, .data⟩ (by simp) rfl _ rfl) (hK _ x hs (Below.refl _ _) rfl)⟩
      · obtain rfl := Option.some.inj (show some _ = some o from ho)
        obtain rfl := Option.some.inj (show some _ = some t from ht)
        exact ⟨want_none rfl, fun K hK => st_ext1 90 97 _ _ (hdep ⟨5, .data⟩ (by simp) rfl _ rfl) (hK _ x hs (Below.refl _ _) rfl)⟩
      · obtain rfl := Option.some.inj (show some _ = some o from ho)
        obtain rfl := Option.some.inj (show some _ = some t from ht)
        exact ⟨want_none rfl, fun K hK => st_alloc 19 (hK _ _ ⟨hs.1.alloc _, hs.2.fst _⟩ (bel_alloc _ _) ⟨_, _, rfl, hs.1.rz.lt, row_lit4 (fun _ => 0) rfl rfl rfl rfl rfl⟩)⟩
      · obtain rfl := Option.some.inj (show some _ = some o from ho)
        obtain rfl := Option.some.inj (show some _ = some t from ht)
        exact ⟨want_none rfl, fun K hK => st_alloc 20 (hK _ _ ⟨hs.1.alloc _, hs.2.snd _⟩ (bel_alloc _ _) ⟨_, _, rfl, hs.1.rz.lt, row_lit4 (fun _ => 0) rfl rfl rfl rfl rfl⟩)⟩
      · obtain rfl := Option.some.inj (show some _ = some o from ho)
        obtain rfl := Option.some.inj (show some _ = some t from ht)
        exact ⟨want_none rfl, fun K hK => by obtain ⟨p, f, hp1, hp2, hp3⟩ := (hdep ⟨8, .data⟩ (by simp) rfl _ rfl); exact st_storew hp1 (hdep ⟨6, .data⟩ (by simp) rfl _ rfl) hp3 fun x' h1 h2 => hK undef x' ⟨hs.1.put hp2 h2, hs.2.mono (Nat.le_of_eq (put4_size h2).symm)⟩ ⟨p, f, _, _, _, _, hp1, hp2, hp3, h2⟩ ⟨p, hp1, hp2, h1⟩⟩
      · obtain rfl := Option.some.inj (show some _ = some o from ho)
        obtain rfl := Option.some.inj (show some _ = some t from ht)
        exact ⟨want_none rfl, fun K hK => by obtain ⟨p, f, hp1, hp2, hp3⟩ := (hdep ⟨9, .data⟩ (by simp) rfl _ rfl); exact st_storew hp1 (hdep ⟨7, .data⟩ (by simp) rfl _ rfl) hp3 fun x' h1 h2 => hK undef x' ⟨hs.1.put hp2 h2, hs.2.mono (Nat.le_of_eq (put4_size h2).symm)⟩ ⟨p, f, _, _, _, _, hp1, hp2, hp3, h2⟩ ⟨p, hp1, hp2, h1⟩⟩
    · intro e vs x hl he hbe hs hT
      obtain ⟨v0, v1, v2, v3, v4, v5, v6, v7, v8, v9, v10, v11, rfl⟩ := len12 hl
      have h0 : (fun l x => l.getD 0 undef = wv a) [v0] x := by
        have h := hT 0 _ rfl
        have hh : (fun l x => l.getD 0 undef = wv a) [e 91] x := h
        rw [show e 91 = v0 from he 0 91 _ rfl rfl] at hh
        exact hh
      have h1 : (fun l x => l.getD 0 undef = wv b) [v1] x := by
        have h := hT 1 _ rfl
        have hh : (fun l x => l.getD 0 undef = wv b) [e 92] x := h
        rw [show e 92 = v1 from he 1 92 _ rfl rfl] at hh
        exact hh
      have h2 : (fun l x => SliceOf 512 (a % M * (b % M)) (l.getD 0 undef) x) [v2] x := by
        have h := hT 2 _ rfl
        have hh : (fun l x => SliceOf 512 (a % M * (b % M)) (l.getD 0 undef) x) [e 93] x := h
        rw [show e 93 = v2 from he 2 93 _ rfl rfl] at hh
        exact hh
      have h3 : (fun l x => l.getD 0 undef = wv c) [v3] x := by
        have h := hT 3 _ rfl
        have hh : (fun l x => l.getD 0 undef = wv c) [e 94] x := h
        rw [show e 94 = v3 from he 3 94 _ rfl rfl] at hh
        exact hh
      have h4 : (fun l x => l.getD 0 undef = .tuple #[wv q, wv r]) [v4] x := by
        have h := hT 4 _ rfl
        have hh : (fun l x => l.getD 0 undef = .tuple #[wv q, wv r]) [e 95] x := h
        rw [show e 95 = v4 from he 4 95 _ rfl rfl] at hh
        exact hh
      have h5 : (fun l x => l.getD 0 undef = .tuple #[wv q, wv r]) [v5] x := by
        have h := hT 5 _ rfl
        have hh : (fun l x => l.getD 0 undef = .tuple #[wv q, wv r]) [e 90] x := h
        rw [show e 90 = v5 from he 5 90 _ rfl rfl] at hh
        exact hh
      have h6 : (fun l x => l.getD 0 undef = wv q) [v6] x := by
        have h := hT 6 _ rfl
        have hh : (fun l x => l.getD 0 undef = wv q) [e 96] x := h
        rw [show e 96 = v6 from he 6 96 _ rfl rfl] at hh
        exact hh
      have h7 : (fun l x => l.getD 0 undef = wv r) [v7] x := by
        have h := hT 7 _ rfl
        have hh : (fun l x => l.getD 0 undef = wv r) [e 97] x := h
        rw [show e 97 = v7 from he 7 97 _ rfl rfl] at hh
        exact hh
      have h8 : (fun l x => PtrRow (w.heap.size + 1 + 1 + 1) (l.getD 0 undef) x) [v8] x := by
        have h := hT 8 _ rfl
        have hh : (fun l x => PtrRow (w.heap.size + 1 + 1 + 1) (l.getD 0 undef) x) [e 19] x := h
        rw [show e 19 = v8 from he 8 19 _ rfl rfl] at hh
        exact hh
      have h9 : (fun l x => PtrRow (w.heap.size + 1 + 1 + 1) (l.getD 0 undef) x) [v9] x := by
        have h := hT 9 _ rfl
        have hh : (fun l x => PtrRow (w.heap.size + 1 + 1 + 1) (l.getD 0 undef) x) [e 20] x := h
        rw [show e 20 = v9 from he 9 20 _ rfl rfl] at hh
        exact hh
      have h10 : (fun l x => PtrIs (w.heap.size + 1 + 1 + 1) q (l.getD 0 undef) x) [v8] x := by
        have h := hT 10 _ rfl
        have hh : (fun l x => PtrIs (w.heap.size + 1 + 1 + 1) q (l.getD 0 undef) x) [e 19] x := h
        rw [show e 19 = v8 from he 8 19 _ rfl rfl] at hh
        exact hh
      have h11 : (fun l x => PtrIs (w.heap.size + 1 + 1 + 1) r (l.getD 0 undef) x) [v9] x := by
        have h := hT 11 _ rfl
        have hh : (fun l x => PtrIs (w.heap.size + 1 + 1 + 1) r (l.getD 0 undef) x) [e 20] x := h
        rw [show e 20 = v9 from he 9 20 _ rfl rfl] at hh
        exact hh
      have hS : (fun l x => RC w a b c x ∧ Two x (l.getD 0 undef) (l.getD 1 undef)) [v8, v9] x := by
        have hh : (fun l x => RC w a b c x ∧ Two x (l.getD 0 undef) (l.getD 1 undef)) [e 19, e 20] x := hs
        rw [show e 19 = v8 from he 8 19 _ rfl rfl] at hh
        rw [show e 20 = v9 from he 9 20 _ rfl rfl] at hh
        exact hh
      clear hl hT he hbe hs
      rw [show zips [some 91, some 92, some 93, some 94, some 95, some 90, some 96, some 97, some 19, some 20, none, none] [v0, v1, v2, v3, v4, v5, v6, v7, v8, v9, v10, v11] = [(91, v0), (92, v1), (93, v2), (94, v3), (95, v4), (90, v5), (96, v6), (97, v7), (19, v8), (20, v9)] from rfl]
      simp only [fill, List.foldl, Act.put, List.setIfInBounds_toArray, List.set_cons_zero, List.set_cons_succ]
      obtain ⟨p, rfl, hp, hrow⟩ := h11
      have hrz := hS.1.rz
      have hbel := hS.1.be
      clear h0 h1 h2 h3 h4 h5 h6 h7 h8 h9 h10 hS hs
      obtain ⟨y0, y1, y2, y3⟩ := row_cells4 hrow
      obtain ⟨x0, x1, x2, x3⟩ := row_cells4 hrz
      have fz := hrz.frozen
      go_wp2
      obtain ⟨q0, q1, q2, q3⟩ := row_cells4 (row_put4 hrz (limb r) rfl rfl rfl rfl)
      refine bodyPost_ret (v := wv r) (by simp [results, Try.results19, go_sem, q0, q1, q2, q3]) rfl (ret_mk (by rw [HR.out, Nat.mod_eq_of_lt ha.out, Nat.mod_eq_of_lt hb0.out]; unfold fmulmod fmod; rw [if_neg (Nat.ne_of_gt hc1.out)]) ?_)
      exact below_put4 hbel (by omega) _ _ _ _
end cin
end Go.Proofs.Ytohoajjdoihekaa
