/-
  The walk of the document's answer: the division of signed numbers.
-/
import Derived.Test.YtohoajjdoihekaaRi
set_option linter.unusedVariables false
set_option linter.unusedSimpArgs false
namespace Go.Proofs.Ytohoajjdoihekaa
open Go.RowKit
namespace cin
theorem q5 {i : Nat} (h : i < 5) : i = 0 ∨ i = 1 ∨ i = 2 ∨ i = 3 ∨ i = 4 := by omega
/-- the three words, and the two new ones -/
structure RQ (w : World) (a b c p1 p2 q r : Nat) (x : World) : Prop where
  rc : RC w a b c x
  r1 : x.rowIs p1 24 4 (u64s (limb q))
  r2 : x.rowIs p2 24 4 (u64s (limb r))
theorem RQ.call {w : World} {a b c p1 p2 q r : Nat} {x y : World} (h : RQ w a b c p1 p2 q r x) (hb : Below x.heap.size x y) : RQ w a b c p1 p2 q r y := ⟨h.rc.call hb, row_below h.r1 hb, row_below h.r2 hb⟩
theorem RQ.drew {w : World} {a b c p1 p2 q r : Nat} {x : World} (h : RQ w a b c p1 p2 q r x) : RQ w a b c p1 p2 q r x.drew := ⟨h.rc.drew, h.r1, h.r2⟩
theorem RQ.put1 {w : World} {a b c p1 p2 q r : Nat} {x : World} (h : RQ w a b c p1 p2 q r x) (hp : w.heap.size + 1 + 1 + 1 < p1) (hne : p1 ≠ p2) (n : Nat) : RQ w a b c p1 p2 n r ((((x.setCell ⟨p1, 0, none⟩ (.int .u64 (limb n 0))).setCell ⟨p1, 1, none⟩ (.int .u64 (limb n 1))).setCell ⟨p1, 2, none⟩ (.int .u64 (limb n 2))).setCell ⟨p1, 3, none⟩ (.int .u64 (limb n 3))) :=
  ⟨h.rc.put hp rfl, row_put4 h.r1 (limb n) rfl rfl rfl rfl, h.r2.of_block (put4_other rfl _ (fun e => hne e.symm))⟩
theorem RQ.put2 {w : World} {a b c p1 p2 q r : Nat} {x : World} (h : RQ w a b c p1 p2 q r x) (hp : w.heap.size + 1 + 1 + 1 < p2) (hne : p1 ≠ p2) (n : Nat) : RQ w a b c p1 p2 q n ((((x.setCell ⟨p2, 0, none⟩ (.int .u64 (limb n 0))).setCell ⟨p2, 1, none⟩ (.int .u64 (limb n 1))).setCell ⟨p2, 2, none⟩ (.int .u64 (limb n 2))).setCell ⟨p2, 3, none⟩ (.int .u64 (limb n 3))) :=
  ⟨h.rc.put hp rfl, h.r1.of_block (put4_other rfl _ hne), row_put4 h.r2 (limb n) rfl rfl rfl rfl⟩
theorem sdiv_n (a b q s : Nat) (na nb : Bool) (ha : neg a = na) (hb : neg b = nb) (hq : q = fmag a / fmag b) (hs : s = if na != nb then fneg (q % M) else q) (hql : q < M) : s % M = fsdiv a b % M := by
  unfold fsdiv fdiv
  rw [ha, hb, ← hq, hs, Nat.mod_eq_of_lt hql]
theorem smod_n (a b r s : Nat) (na : Bool) (ha : neg a = na) (hb0 : fmag b ≠ 0) (hr : r = fmag a % fmag b) (hs : s = if na then fneg (r % M) else r) (hrl : r < M) : s % M = fsmod a b % M := by
  unfold fsmod fmod
  rw [ha, if_neg hb0, ← hr, hs, Nat.mod_eq_of_lt hrl]
theorem fmag_pos (b : Nat) (hb : b < M) (h : 0 < b) : 0 < fmag b := by
  unfold fmag fneg
  split
  · unfold M at *; omega
  · exact h
set_option maxRecDepth 100000 in
set_option maxHeartbeats 8000000 in
theorem rsdiv_any (a b c : Nat) (ha : Hid (a < M)) (hb0 : Hid (b < M)) (hc0 : Hid (c < M)) (w : World) : Calls Try.prog 19 #[.int .u8 5, wv a, wv b, wv c] w (Ret w (fsdiv a b)) := by
  have hs := RC.start w a b c
  have hy := (row_lit4 (t := 24) (limb b) (w := ((((w.alloc (.cells #[.int .u64 (limb a 0), .int .u64 (limb a 1), .int .u64 (limb a 2), .int .u64 (limb a 3)] 24)).alloc (.cells #[.int .u64 (limb b 0), .int .u64 (limb b 1), .int .u64 (limb b 2), .int .u64 (limb b 3)] 24)).alloc (.cells #[.int .u64 (limb c 0), .int .u64 (limb c 1), .int .u64 (limb c 2), .int .u64 (limb c 3)] 24)).alloc (.cells #[.int .u64 0, .int .u64 0, .int .u64 0, .int .u64 0] 24))) rfl rfl rfl rfl rfl)
  clear hy
  go_enter Try.func19, Try.ntmps19
  go_wp2_with fail
  refine (risz_any b _).mono ?_
  rintro e w1 ⟨rfl, hb⟩
  replace hs := RC.call (RC.alloc hs _) hb
  clear hb
  by_cases hz : b = 0
  · as_aux_lemma =>
    have HZ : Hid (fsdiv a b = 0) := by show _ = _; rw [hz]; exact rk_sdiv0 a
    have hd : decide (b % M = 0) = true := decide_eq_true (by rw [hz]; rfl)
    rw [hd]
    clear hd hz
    go_wp2_with fail
    refine (rsmall_any 0 (by omega) _).mono ?_
    rintro e w2 ⟨s, HS, rfl, hb⟩
    replace hs := hs.call hb
    clear hb
    have hrz := hs.rz
    have hbel := hs.be
    obtain ⟨x0, x1, x2, x3⟩ := row_cells4 hrz
    have fz := hrz.frozen
    go_wp2
    obtain ⟨q0, q1, q2, q3⟩ := row_cells4 (row_put4 hrz (limb s) rfl rfl rfl rfl)
    refine bodyPost_ret (v := wv s) (by simp [results, Try.results19, go_sem, q0, q1, q2, q3]) rfl (ret_mk (by rw [HS.out, HZ.out]) ?_)
    exact below_put4 hbel (by omega) _ _ _ _
  · as_aux_lemma =>
    have hd : decide (b % M = 0) = false := decide_eq_false (by rw [Nat.mod_eq_of_lt hb0.out]; exact hz)
    rw [hd]
    have hb1 : Hid (0 < b) := Nat.pos_of_ne_zero hz
    clear hd hz
    obtain ⟨ma, HMA⟩ : ∃ m, Hid (m = fmag (a % M)) := ⟨_, rfl⟩
    obtain ⟨mb, HMB⟩ : ∃ m, Hid (m = fmag (b % M)) := ⟨_, rfl⟩
    have hma : Hid (ma < M) := by show _ < _; rw [HMA.out]; exact fmag_lt _ (Nat.mod_lt _ Mpos)
    have hmb : Hid (mb < M) := by show _ < _; rw [HMB.out]; exact fmag_lt _ (Nat.mod_lt _ Mpos)
    have hb2 : Hid (0 < mb) := by show _ < _; rw [HMB.out, Nat.mod_eq_of_lt hb0.out]; exact fmag_pos b hb0.out hb1.out
    obtain ⟨q, HQ⟩ : ∃ q, Hid (q = ma / mb) := ⟨_, rfl⟩
    obtain ⟨r, HR⟩ : ∃ r, Hid (r = ma % mb) := ⟨_, rfl⟩
    have HQL : Hid (q < M) := by show _ < _; rw [HQ.out]; exact Nat.lt_of_le_of_lt (Nat.div_le_self _ _) hma.out
    have HRL : Hid (r < M) := by show _ < _; rw [HR.out]; exact Nat.lt_trans (Nat.mod_lt _ hb2.out) hmb.out
    have HF : Hid (fmag b ≠ 0) := Nat.ne_of_gt (fmag_pos b hb0.out hb1.out)
    go_wp2
    refine wp_region_fr (by kernel_rfl) [15, 16] (fun l x => RC w a b c x ∧ Two x (l.getD 0 undef) (l.getD 1 undef)) (fun i l x x' => if i = 11 then Stored (w.heap.size + 1 + 1 + 1) (l.getD 0 undef) x x' else if i = 12 then Stored (w.heap.size + 1 + 1 + 1) (l.getD 1 undef) x x' else Below x.heap.size x x') [⟨some 54, [54], fun l x => l.getD 0 undef = wv a⟩, ⟨some 55, [55], fun l x => l.getD 0 undef = wv ma⟩, ⟨some 56, [56], fun l x => SliceOf 256 ma (l.getD 0 undef) x⟩, ⟨some 57, [57], fun l x => l.getD 0 undef = wv b⟩, ⟨some 58, [58], fun l x => l.getD 0 undef = wv mb⟩, ⟨some 59, [59], fun l x => l.getD 0 undef = .tuple #[wv q, wv r]⟩, ⟨some 53, [53], fun l x => l.getD 0 undef = .tuple #[wv q, wv r]⟩, ⟨some 60, [60], fun l x => l.getD 0 undef = wv q⟩, ⟨some 61, [61], fun l x => l.getD 0 undef = wv r⟩, ⟨some 15, [15], fun l x => PtrRow (w.heap.size + 1 + 1 + 1) (l.getD 0 undef) x⟩, ⟨some 16, [16], fun l x => PtrRow (w.heap.size + 1 + 1 + 1) (l.getD 0 undef) x⟩, ⟨none, [15], fun l x => PtrIs (w.heap.size + 1 + 1 + 1) q (l.getD 0 undef) x⟩, ⟨none, [16], fun l x => PtrIs (w.heap.size + 1 + 1 + 1) r (l.getD 0 undef) x⟩] [some 54, some 55, some 56, some 57, some 58, some 59, some 53, some 60, some 61, some 15, some 16, none, none] rfl (by kernel_rfl) (by kernel_rfl) rfl (by kernel_rfl) (by kernel_rfl) ⟨hs.drew, two_undef _⟩ [(5, .pointer (some ⟨w.heap.size, 0, none⟩)), (6, .pointer (some ⟨w.heap.size + 1, 0, none⟩)), (7, .pointer (some ⟨w.heap.size + 1 + 1, 0, none⟩))] (by intro p hp; simp only [List.mem_cons, List.not_mem_nil, or_false] at hp; rcases hp with rfl | rfl | rfl <;> rfl) (by kernel_rfl) ?_ ?_ ?_
    · as_aux_lemma =>
      intro i j t h hij e x x' hs hr ht
      have hj : j < 13 := (List.getElem?_eq_some_iff.1 h).1
      rcases p13 hj with rfl | rfl | rfl | rfl | rfl | rfl | rfl | rfl | rfl | rfl | rfl | rfl | rfl <;> obtain rfl := Option.some.inj (show some _ = some t from h) <;> (by_cases i1 : i = 11; (rw [if_pos i1] at hr; first | exact absurd i1 hij | exact ht | exact ht.stored hr | exact ht.stored hr (fun p q e1 e2 => (hs.2.2.2 q p e2 e1).symm)); (rw [if_neg i1] at hr; by_cases i2 : i = 12; (rw [if_pos i2] at hr; first | exact absurd i2 hij | exact ht | exact ht.stored hr | exact ht.stored hr (fun p q e1 e2 => hs.2.2.2 p q e1 e2)); (rw [if_neg i2] at hr; first | exact ht | exact ht.below hr)))
    · as_aux_lemma =>
      intro i o t ho ht s x hs hb hdep
      have hi : i < 13 := (Array.getElem?_eq_some_iff.1 ho).1
      rcases p13 hi with rfl | rfl | rfl | rfl | rfl | rfl | rfl | rfl | rfl | rfl | rfl | rfl | rfl
      · obtain rfl := Option.some.inj (show some _ = some o from ho)
        obtain rfl := Option.some.inj (show some _ = some t from ht)
        exact ⟨want_none rfl, fun K hK => st_load 5 54 _ _ (hb _ (List.Mem.head _)) hs.1.ra (hK _ x hs (Below.refl _ _) rfl)⟩
      · obtain rfl := Option.some.inj (show some _ = some o from ho)
        obtain rfl := Option.some.inj (show some _ = some t from ht)
        exact ⟨want_none rfl, fun K hK => st_ret own_size (ev1 (hdep ⟨0, .data⟩ (by simp) rfl _ rfl)) (rsize_any a x) HMA (fun x' h1 => hK _ x' ⟨hs.1.call h1, hs.2.mono h1.size⟩ h1 rfl)⟩
      · obtain rfl := Option.some.inj (show some _ = some o from ho)
        obtain rfl := Option.some.inj (show some _ = some t from ht)
        exact ⟨want_none rfl, fun K hK => st_bitsOf 55 56 ma (hdep ⟨1, .data⟩ (by simp) rfl _ rfl) (fun v x' h1 h2 => hK v x' ⟨hs.1.call h1, hs.2.mono h1.size⟩ h1 h2)⟩
      · obtain rfl := Option.some.inj (show some _ = some o from ho)
        obtain rfl := Option.some.inj (show some _ = some t from ht)
        exact ⟨want_none rfl, fun K hK => st_load 6 57 _ _ (hb _ (List.Mem.tail _ (List.Mem.head _))) hs.1.rb (hK _ x hs (Below.refl _ _) rfl)⟩
      · obtain rfl := Option.some.inj (show some _ = some o from ho)
        obtain rfl := Option.some.inj (show some _ = some t from ht)
        exact ⟨want_none rfl, fun K hK => st_ret own_size (ev1 (hdep ⟨3, .data⟩ (by simp) rfl _ rfl)) (rsize_any b x) HMB (fun x' h1 => hK _ x' ⟨hs.1.call h1, hs.2.mono h1.size⟩ h1 rfl)⟩
      · obtain rfl := Option.some.inj (show some _ = some o from ho)
        obtain rfl := Option.some.inj (show some _ = some t from ht)
        exact ⟨want_none rfl, fun K hK => st_divide 56 58 59 ma mb 256 q r (by omega) (hi256 hma.out) hmb hb2 HQ HR (hdep ⟨2, .data⟩ (by simp) rfl _ rfl) (hdep ⟨4, .data⟩ (by simp) rfl _ rfl) (fun x' h1 => hK _ x' ⟨hs.1.call h1, hs.2.mono h1.size⟩ h1 rfl)⟩
      · obtain rfl := Option.some.inj (show some _ = some o from ho)
        obtain rfl := Option.some.inj (show some _ = some t from ht)
        exact ⟨want_none rfl, fun K hK => st_move 59 53 _ (hdep ⟨5, .data⟩ (by simp) rfl _ rfl) (hK _ x hs (Below.refl _ _) rfl)⟩
      · obtain rfl := Option.some.inj (show some _ = some o from ho)
        obtain rfl := Option.some.inj (show some _ = some t from ht)
        exact ⟨want_none rfl, fun K hK => st_ext0 53 60 _ _ (hdep ⟨6, .data⟩ (by simp) rfl _ rfl) (hK _ x hs (Below.refl _ _) rfl)⟩
      · obtain rfl := Option.some.inj (show some _ = some o from ho)
        obtain rfl := Option.some.inj (show some _ = some t from ht)
        exact ⟨want_none rfl, fun K hK => st_ext1 53 61 _ _ (hdep ⟨6, .data⟩ (by simp) rfl _ rfl) (hK _ x hs (Below.refl _ _) rfl)⟩
      · obtain rfl := Option.some.inj (show some _ = some o from ho)
        obtain rfl := Option.some.inj (show some _ = some t from ht)
        exact ⟨want_none rfl, fun K hK => st_alloc 15 (hK _ _ ⟨hs.1.alloc _, hs.2.fst _⟩ (bel_alloc _ _) ⟨_, _, rfl, hs.1.rz.lt, row_lit4 (fun _ => 0) rfl rfl rfl rfl rfl⟩)⟩
      · obtain rfl := Option.some.inj (show some _ = some o from ho)
        obtain rfl := Option.some.inj (show some _ = some t from ht)
        exact ⟨want_none rfl, fun K hK => st_alloc 16 (hK _ _ ⟨hs.1.alloc _, hs.2.snd _⟩ (bel_alloc _ _) ⟨_, _, rfl, hs.1.rz.lt, row_lit4 (fun _ => 0) rfl rfl rfl rfl rfl⟩)⟩
      · obtain rfl := Option.some.inj (show some _ = some o from ho)
        obtain rfl := Option.some.inj (show some _ = some t from ht)
        exact ⟨want_none rfl, fun K hK => by obtain ⟨p, f, hp1, hp2, hp3⟩ := (hdep ⟨9, .data⟩ (by simp) rfl _ rfl); exact st_storew hp1 (hdep ⟨7, .data⟩ (by simp) rfl _ rfl) hp3 fun x' h1 h2 => hK undef x' ⟨hs.1.put hp2 h2, hs.2.mono (Nat.le_of_eq (put4_size h2).symm)⟩ ⟨p, f, _, _, _, _, hp1, hp2, hp3, h2⟩ ⟨p, hp1, hp2, h1⟩⟩
      · obtain rfl := Option.some.inj (show some _ = some o from ho)
        obtain rfl := Option.some.inj (show some _ = some t from ht)
        exact ⟨want_none rfl, fun K hK => by obtain ⟨p, f, hp1, hp2, hp3⟩ := (hdep ⟨10, .data⟩ (by simp) rfl _ rfl); exact st_storew hp1 (hdep ⟨8, .data⟩ (by simp) rfl _ rfl) hp3 fun x' h1 h2 => hK undef x' ⟨hs.1.put hp2 h2, hs.2.mono (Nat.le_of_eq (put4_size h2).symm)⟩ ⟨p, f, _, _, _, _, hp1, hp2, hp3, h2⟩ ⟨p, hp1, hp2, h1⟩⟩
    · intro e vs x hl he hbe hs hT
      obtain ⟨v0, v1, v2, v3, v4, v5, v6, v7, v8, v9, v10, v11, v12, rfl⟩ := len13 hl
      have h0 : (fun l x => l.getD 0 undef = wv a) [v0] x := by
        have h := hT 0 _ rfl
        have hh : (fun l x => l.getD 0 undef = wv a) [e 54] x := h
        rw [show e 54 = v0 from he 0 54 _ rfl rfl] at hh
        exact hh
      have h1 : (fun l x => l.getD 0 undef = wv ma) [v1] x := by
        have h := hT 1 _ rfl
        have hh : (fun l x => l.getD 0 undef = wv ma) [e 55] x := h
        rw [show e 55 = v1 from he 1 55 _ rfl rfl] at hh
        exact hh
      have h2 : (fun l x => SliceOf 256 ma (l.getD 0 undef) x) [v2] x := by
        have h := hT 2 _ rfl
        have hh : (fun l x => SliceOf 256 ma (l.getD 0 undef) x) [e 56] x := h
        rw [show e 56 = v2 from he 2 56 _ rfl rfl] at hh
        exact hh
      have h3 : (fun l x => l.getD 0 undef = wv b) [v3] x := by
        have h := hT 3 _ rfl
        have hh : (fun l x => l.getD 0 undef = wv b) [e 57] x := h
        rw [show e 57 = v3 from he 3 57 _ rfl rfl] at hh
        exact hh
      have h4 : (fun l x => l.getD 0 undef = wv mb) [v4] x := by
        have h := hT 4 _ rfl
        have hh : (fun l x => l.getD 0 undef = wv mb) [e 58] x := h
        rw [show e 58 = v4 from he 4 58 _ rfl rfl] at hh
        exact hh
      have h5 : (fun l x => l.getD 0 undef = .tuple #[wv q, wv r]) [v5] x := by
        have h := hT 5 _ rfl
        have hh : (fun l x => l.getD 0 undef = .tuple #[wv q, wv r]) [e 59] x := h
        rw [show e 59 = v5 from he 5 59 _ rfl rfl] at hh
        exact hh
      have h6 : (fun l x => l.getD 0 undef = .tuple #[wv q, wv r]) [v6] x := by
        have h := hT 6 _ rfl
        have hh : (fun l x => l.getD 0 undef = .tuple #[wv q, wv r]) [e 53] x := h
        rw [show e 53 = v6 from he 6 53 _ rfl rfl] at hh
        exact hh
      have h7 : (fun l x => l.getD 0 undef = wv q) [v7] x := by
        have h := hT 7 _ rfl
        have hh : (fun l x => l.getD 0 undef = wv q) [e 60] x := h
        rw [show e 60 = v7 from he 7 60 _ rfl rfl] at hh
        exact hh
      have h8 : (fun l x => l.getD 0 undef = wv r) [v8] x := by
        have h := hT 8 _ rfl
        have hh : (fun l x => l.getD 0 undef = wv r) [e 61] x := h
        rw [show e 61 = v8 from he 8 61 _ rfl rfl] at hh
        exact hh
      have h9 : (fun l x => PtrRow (w.heap.size + 1 + 1 + 1) (l.getD 0 undef) x) [v9] x := by
        have h := hT 9 _ rfl
        have hh : (fun l x => PtrRow (w.heap.size + 1 + 1 + 1) (l.getD 0 undef) x) [e 15] x := h
        rw [show e 15 = v9 from he 9 15 _ rfl rfl] at hh
        exact hh
      have h10 : (fun l x => PtrRow (w.heap.size + 1 + 1 + 1) (l.getD 0 undef) x) [v10] x := by
        have h := hT 10 _ rfl
        have hh : (fun l x => PtrRow (w.heap.size + 1 + 1 + 1) (l.getD 0 undef) x) [e 16] x := h
        rw [show e 16 = v10 from he 10 16 _ rfl rfl] at hh
        exact hh
      have h11 : (fun l x => PtrIs (w.heap.size + 1 + 1 + 1) q (l.getD 0 undef) x) [v9] x := by
        have h := hT 11 _ rfl
        have hh : (fun l x => PtrIs (w.heap.size + 1 + 1 + 1) q (l.getD 0 undef) x) [e 15] x := h
        rw [show e 15 = v9 from he 9 15 _ rfl rfl] at hh
        exact hh
      have h12 : (fun l x => PtrIs (w.heap.size + 1 + 1 + 1) r (l.getD 0 undef) x) [v10] x := by
        have h := hT 12 _ rfl
        have hh : (fun l x => PtrIs (w.heap.size + 1 + 1 + 1) r (l.getD 0 undef) x) [e 16] x := h
        rw [show e 16 = v10 from he 10 16 _ rfl rfl] at hh
        exact hh
      have hS : (fun l x => RC w a b c x ∧ Two x (l.getD 0 undef) (l.getD 1 undef)) [v9, v10] x := by
        have hh : (fun l x => RC w a b c x ∧ Two x (l.getD 0 undef) (l.getD 1 undef)) [e 15, e 16] x := hs
        rw [show e 15 = v9 from he 9 15 _ rfl rfl] at hh
        rw [show e 16 = v10 from he 10 16 _ rfl rfl] at hh
        exact hh
      clear hl hT he hbe hs
      rw [show zips [some 54, some 55, some 56, some 57, some 58, some 59, some 53, some 60, some 61, some 15, some 16, none, none] [v0, v1, v2, v3, v4, v5, v6, v7, v8, v9, v10, v11, v12] = [(54, v0), (55, v1), (56, v2), (57, v3), (58, v4), (59, v5), (53, v6), (60, v7), (61, v8), (15, v9), (16, v10)] from rfl]
      simp only [fill, List.foldl, Act.put, List.setIfInBounds_toArray, List.set_cons_zero, List.set_cons_succ]
      obtain ⟨p1, rfl, hp1, hr1⟩ := h11
      obtain ⟨p2, rfl, hp2, hr2⟩ := h12
      have hne : p1 ≠ p2 := hS.2.2.2 p1 p2 rfl rfl
      have hq : RQ w a b c p1 p2 q r x := ⟨hS.1, hr1, hr2⟩
      clear hr1 hr2 hS h0 h1 h2 h3 h4 h5 h6 h7 h8 h9 h10 hs
      obtain ⟨na, HA⟩ : ∃ n, Hid (neg a = n) := ⟨_, rfl⟩
      obtain ⟨nb, HB⟩ : ∃ n, Hid (neg b = n) := ⟨_, rfl⟩
      go_wp2
      refine wp_region_table (by kernel_rfl) (RQ w a b c p1 p2 q r) [(62, wv a), (63, .bool na), (64, wv b), (65, .bool nb), (66, .bool (na != nb))] (by kernel_rfl) rfl (by kernel_rfl) (by kernel_rfl) hq.drew [(5, .pointer (some ⟨w.heap.size, 0, none⟩)), (6, .pointer (some ⟨w.heap.size + 1, 0, none⟩))] (by intro p hp; simp only [List.mem_cons, List.not_mem_nil, or_false] at hp; rcases hp with rfl | rfl <;> rfl) (by kernel_rfl) [] (fun p hp => by cases hp) ?_ ?_
      · as_aux_lemma =>
        intro i o d v ho ht s x hs hb hb2 hdep
        have hi : i < 5 := (Array.getElem?_eq_some_iff.1 ho).1
        rcases q5 hi with rfl | rfl | rfl | rfl | rfl
        · obtain rfl := Option.some.inj (show some _ = some o from ho)
          obtain ⟨rfl, rfl⟩ := Prod.mk.inj (Option.some.inj (show some (_, _) = some (d, v) from ht))
          exact Or.inl ⟨want_none rfl, fun K hK => st_load 5 62 _ _ (hb _ (List.Mem.head _)) hs.rc.ra (hK x hs)⟩
        · obtain rfl := Option.some.inj (show some _ = some o from ho)
          obtain ⟨rfl, rfl⟩ := Prod.mk.inj (Option.some.inj (show some (_, _) = some (d, v) from ht))
          exact Or.inl ⟨want_none rfl, fun K hK => st_bool _ 62 63 a na own_minus (fun w => by have h := rminus_any a w; rw [HA.out] at h; exact h) (hdep ⟨0, .data⟩ (by simp) rfl _ _ rfl) (fun x' h1 => hK x' (hs.call h1))⟩
        · obtain rfl := Option.some.inj (show some _ = some o from ho)
          obtain ⟨rfl, rfl⟩ := Prod.mk.inj (Option.some.inj (show some (_, _) = some (d, v) from ht))
          exact Or.inl ⟨want_none rfl, fun K hK => st_load 6 64 _ _ (hb _ (List.Mem.tail _ (List.Mem.head _))) hs.rc.rb (hK x hs)⟩
        · obtain rfl := Option.some.inj (show some _ = some o from ho)
          obtain ⟨rfl, rfl⟩ := Prod.mk.inj (Option.some.inj (show some (_, _) = some (d, v) from ht))
          exact Or.inl ⟨want_none rfl, fun K hK => st_bool _ 64 65 b nb own_minus (fun w => by have h := rminus_any b w; rw [HB.out] at h; exact h) (hdep ⟨2, .data⟩ (by simp) rfl _ _ rfl) (fun x' h1 => hK x' (hs.call h1))⟩
        · obtain rfl := Option.some.inj (show some _ = some o from ho)
          obtain ⟨rfl, rfl⟩ := Prod.mk.inj (Option.some.inj (show some (_, _) = some (d, v) from ht))
          exact Or.inl ⟨want_none rfl, fun K hK => st_neqb 63 65 66 na nb (hdep ⟨1, .data⟩ (by simp) rfl _ _ rfl) (hdep ⟨3, .data⟩ (by simp) rfl _ _ rfl) (hK x hs)⟩
      · intro x2 hq2
        clear hq
        have hq := hq2
        clear hq2
        simp only [fill, List.foldl, Act.put, List.setIfInBounds_toArray, List.set_cons_zero, List.set_cons_succ]
        obtain ⟨tt, HTT⟩ : ∃ t, Hid (t = (na != nb)) := ⟨_, rfl⟩
        rw [← HTT.out]
        go_upto_if 66 with fail
        go_cut [10] (fun t10 wx => ∃ s1 : Nat, t10 = .bool false ∧ RQ w a b c p1 p2 s1 r wx ∧ Hid (s1 = if tt then fneg (q % M) else q))
        case first =>
          as_aux_lemma =>
          cases tt
          · go_wp2_with fail
            go_meet
            case rel => exact ⟨q, rfl, hq, rfl⟩
          · obtain ⟨c0, c1, c2, c3⟩ := row_cells4 hq.r1
            go_wp2_with fail
            refine (rneg_any q _).mono ?_
            rintro e w2 ⟨s1, HS1, rfl, hb⟩
            replace hq := hq.call hb
            clear hb c0 c1 c2 c3
            obtain ⟨c0, c1, c2, c3⟩ := row_cells4 hq.r1
            have fz := hq.r1.frozen
            go_wp2_with fail
            go_meet
            case rel => exact ⟨s1, rfl, hq.put1 hp1 hne s1, HS1⟩
        case rest =>
          as_aux_lemma =>
          clear hq
          obtain ⟨s1, rfl, hq, HS1⟩ := hcut
          obtain ⟨a0, a1, a2, a3⟩ := row_cells4 hq.rc.ra
          go_wp2_with fail
          refine (rminus_any a _).mono ?_
          rintro e w3 ⟨rfl, hb⟩
          replace hq := hq.call hb
          clear hb a0 a1 a2 a3
          rw [HA.out]
          go_upto_if 70 with fail
          go_cut [10] (fun t10 wx => ∃ s2 : Nat, t10 = .bool false ∧ RQ w a b c p1 p2 s1 s2 wx ∧ Hid (s2 = if na then fneg (r % M) else r))
          case first =>
            as_aux_lemma =>
            cases na
            · go_wp2_with fail
              go_meet
              case rel => exact ⟨r, rfl, hq, rfl⟩
            · obtain ⟨c0, c1, c2, c3⟩ := row_cells4 hq.r2
              go_wp2_with fail
              refine (rneg_any r _).mono ?_
              rintro e w4 ⟨s2, HS2, rfl, hb⟩
              replace hq := hq.call hb
              clear hb c0 c1 c2 c3
              obtain ⟨c0, c1, c2, c3⟩ := row_cells4 hq.r2
              have fz := hq.r2.frozen
              go_wp2_with fail
              go_meet
              case rel => exact ⟨s2, rfl, hq.put2 hp2 hne s2, HS2⟩
          case rest =>
            as_aux_lemma =>
            clear hq
            obtain ⟨s2, rfl, hq, HS2⟩ := hcut
            obtain ⟨d0, d1, d2, d3⟩ := row_cells4 hq.r1
            obtain ⟨e0, e1, e2, e3⟩ := row_cells4 hq.r2
            obtain ⟨x0, x1, x2, x3⟩ := row_cells4 hq.rc.rz
            have fz := hq.rc.rz.frozen
            go_wp2
            obtain ⟨q0, q1, q2, q3⟩ := row_cells4 (row_put4 hq.rc.rz (limb s1) rfl rfl rfl rfl)
            refine bodyPost_ret (v := wv s1) (by simp [results, Try.results19, go_sem, q0, q1, q2, q3]) rfl (ret_mk (sdiv_n a b q s1 na nb HA.out HB.out (by rw [HQ.out, HMA.out, HMB.out, Nat.mod_eq_of_lt ha.out, Nat.mod_eq_of_lt hb0.out]) (by rw [HS1.out, HTT.out]) HQL.out) ?_)
            exact below_put4 hq.rc.be (by omega) _ _ _ _
set_option maxRecDepth 100000 in
set_option maxHeartbeats 8000000 in
theorem rsmod_any (a b c : Nat) (ha : Hid (a < M)) (hb0 : Hid (b < M)) (hc0 : Hid (c < M)) (w : World) : Calls Try.prog 19 #[.int .u8 7, wv a, wv b, wv c] w (Ret w (fsmod a b)) := by
  have hs := RC.start w a b c
  have hy := (row_lit4 (t := 24) (limb b) (w := ((((w.alloc (.cells #[.int .u64 (limb a 0), .int .u64 (limb a 1), .int .u64 (limb a 2), .int .u64 (limb a 3)] 24)).alloc (.cells #[.int .u64 (limb b 0), .int .u64 (limb b 1), .int .u64 (limb b 2), .int .u64 (limb b 3)] 24)).alloc (.cells #[.int .u64 (limb c 0), .int .u64 (limb c 1), .int .u64 (limb c 2), .int .u64 (limb c 3)] 24)).alloc (.cells #[.int .u64 0, .int .u64 0, .int .u64 0, .int .u64 0] 24))) rfl rfl rfl rfl rfl)
  clear hy
  go_enter Try.func19, Try.ntmps19
  go_wp2_with fail
  refine (risz_any b _).mono ?_
  rintro e w1 ⟨rfl, hb⟩
  replace hs := RC.call (RC.alloc hs _) hb
  clear hb
  by_cases hz : b = 0
  · as_aux_lemma =>
    have HZ : Hid (fsmod a b = 0) := by show _ = _; rw [hz]; exact rk_smod0 a
    have hd : decide (b % M = 0) = true := decide_eq_true (by rw [hz]; rfl)
    rw [hd]
    clear hd hz
    go_wp2_with fail
    refine (rsmall_any 0 (by omega) _).mono ?_
    rintro e w2 ⟨s, HS, rfl, hb⟩
    replace hs := hs.call hb
    clear hb
    have hrz := hs.rz
    have hbel := hs.be
    obtain ⟨x0, x1, x2, x3⟩ := row_cells4 hrz
    have fz := hrz.frozen
    go_wp2
    obtain ⟨q0, q1, q2, q3⟩ := row_cells4 (row_put4 hrz (limb s) rfl rfl rfl rfl)
    refine bodyPost_ret (v := wv s) (by simp [results, Try.results19, go_sem, q0, q1, q2, q3]) rfl (ret_mk (by rw [HS.out, HZ.out]) ?_)
    exact below_put4 hbel (by omega) _ _ _ _
  · as_aux_lemma =>
    have hd : decide (b % M = 0) = false := decide_eq_false (by rw [Nat.mod_eq_of_lt hb0.out]; exact hz)
    rw [hd]
    have hb1 : Hid (0 < b) := Nat.pos_of_ne_zero hz
    clear hd hz
    obtain ⟨ma, HMA⟩ : ∃ m, Hid (m = fmag (a % M)) := ⟨_, rfl⟩
    obtain ⟨mb, HMB⟩ : ∃ m, Hid (m = fmag (b % M)) := ⟨_, rfl⟩
    have hma : Hid (ma < M) := by show _ < _; rw [HMA.out]; exact fmag_lt _ (Nat.mod_lt _ Mpos)
    have hmb : Hid (mb < M) := by show _ < _; rw [HMB.out]; exact fmag_lt _ (Nat.mod_lt _ Mpos)
    have hb2 : Hid (0 < mb) := by show _ < _; rw [HMB.out, Nat.mod_eq_of_lt hb0.out]; exact fmag_pos b hb0.out hb1.out
    obtain ⟨q, HQ⟩ : ∃ q, Hid (q = ma / mb) := ⟨_, rfl⟩
    obtain ⟨r, HR⟩ : ∃ r, Hid (r = ma % mb) := ⟨_, rfl⟩
    have HQL : Hid (q < M) := by show _ < _; rw [HQ.out]; exact Nat.lt_of_le_of_lt (Nat.div_le_self _ _) hma.out
    have HRL : Hid (r < M) := by show _ < _; rw [HR.out]; exact Nat.lt_trans (Nat.mod_lt _ hb2.out) hmb.out
    have HF : Hid (fmag b ≠ 0) := Nat.ne_of_gt (fmag_pos b hb0.out hb1.out)
    go_wp2
    refine wp_region_fr (by kernel_rfl) [15, 16] (fun l x => RC w a b c x ∧ Two x (l.getD 0 undef) (l.getD 1 undef)) (fun i l x x' => if i = 11 then Stored (w.heap.size + 1 + 1 + 1) (l.getD 0 undef) x x' else if i = 12 then Stored (w.heap.size + 1 + 1 + 1) (l.getD 1 undef) x x' else Below x.heap.size x x') [⟨some 54, [54], fun l x => l.getD 0 undef = wv a⟩, ⟨some 55, [55], fun l x => l.getD 0 undef = wv ma⟩, ⟨some 56, [56], fun l x => SliceOf 256 ma (l.getD 0 undef) x⟩, ⟨some 57, [57], fun l x => l.getD 0 undef = wv b⟩, ⟨some 58, [58], fun l x => l.getD 0 undef = wv mb⟩, ⟨some 59, [59], fun l x => l.getD 0 undef = .tuple #[wv q, wv r]⟩, ⟨some 53, [53], fun l x => l.getD 0 undef = .tuple #[wv q, wv r]⟩, ⟨some 60, [60], fun l x => l.getD 0 undef = wv q⟩, ⟨some 61, [61], fun l x => l.getD 0 undef = wv r⟩, ⟨some 15, [15], fun l x => PtrRow (w.heap.size + 1 + 1 + 1) (l.getD 0 undef) x⟩, ⟨some 16, [16], fun l x => PtrRow (w.heap.size + 1 + 1 + 1) (l.getD 0 undef) x⟩, ⟨none, [15], fun l x => PtrIs (w.heap.size + 1 + 1 + 1) q (l.getD 0 undef) x⟩, ⟨none, [16], fun l x => PtrIs (w.heap.size + 1 + 1 + 1) r (l.getD 0 undef) x⟩] [some 54, some 55, some 56, some 57, some 58, some 59, some 53, some 60, some 61, some 15, some 16, none, none] rfl (by kernel_rfl) (by kernel_rfl) rfl (by kernel_rfl) (by kernel_rfl) ⟨hs.drew, two_undef _⟩ [(5, .pointer (some ⟨w.heap.size, 0, none⟩)), (6, .pointer (some ⟨w.heap.size + 1, 0, none⟩)), (7, .pointer (some ⟨w.heap.size + 1 + 1, 0, none⟩))] (by intro p hp; simp only [List.mem_cons, List.not_mem_nil, or_false] at hp; rcases hp with rfl | rfl | rfl <;> rfl) (by kernel_rfl) ?_ ?_ ?_
    · as_aux_lemma =>
      intro i j t h hij e x x' hs hr ht
      have hj : j < 13 := (List.getElem?_eq_some_iff.1 h).1
      rcases p13 hj with rfl | rfl | rfl | rfl | rfl | rfl | rfl | rfl | rfl | rfl | rfl | rfl | rfl <;> obtain rfl := Option.some.inj (show some _ = some t from h) <;> (by_cases i1 : i = 11; (rw [if_pos i1] at hr; first | exact absurd i1 hij | exact ht | exact ht.stored hr | exact ht.stored hr (fun p q e1 e2 => (hs.2.2.2 q p e2 e1).symm)); (rw [if_neg i1] at hr; by_cases i2 : i = 12; (rw [if_pos i2] at hr; first | exact absurd i2 hij | exact ht | exact ht.stored hr | exact ht.stored hr (fun p q e1 e2 => hs.2.2.2 p q e1 e2)); (rw [if_neg i2] at hr; first | exact ht | exact ht.below hr)))
    · as_aux_lemma =>
      intro i o t ho ht s x hs hb hdep
      have hi : i < 13 := (Array.getElem?_eq_some_iff.1 ho).1
      rcases p13 hi with rfl | rfl | rfl | rfl | rfl | rfl | rfl | rfl | rfl | rfl | rfl | rfl | rfl
      · obtain rfl := Option.some.inj (show some _ = some o from ho)
        obtain rfl := Option.some.inj (show some _ = some t from ht)
        exact ⟨want_none rfl, fun K hK => st_load 5 54 _ _ (hb _ (List.Mem.head _)) hs.1.ra (hK _ x hs (Below.refl _ _) rfl)⟩
      · obtain rfl := Option.some.inj (show some _ = some o from ho)
        obtain rfl := Option.some.inj (show some _ = some t from ht)
        exact ⟨want_none rfl, fun K hK => st_ret own_size (ev1 (hdep ⟨0, .data⟩ (by simp) rfl _ rfl)) (rsize_any a x) HMA (fun x' h1 => hK _ x' ⟨hs.1.call h1, hs.2.mono h1.size⟩ h1 rfl)⟩
      · obtain rfl := Option.some.inj (show some _ = some o from ho)
        obtain rfl := Option.some.inj (show some _ = some t from ht)
        exact ⟨want_none rfl, fun K hK => st_bitsOf 55 56 ma (hdep ⟨1, .data⟩ (by simp) rfl _ rfl) (fun v x' h1 h2 => hK v x' ⟨hs.1.call h1, hs.2.mono h1.size⟩ h1 h2)⟩
      · obtain rfl := Option.some.inj (show some _ = some o from ho)
        obtain rfl := Option.some.inj (show some _ = some t from ht)
        exact ⟨want_none rfl, fun K hK => st_load 6 57 _ _ (hb _ (List.Mem.tail _ (List.Mem.head _))) hs.1.rb (hK _ x hs (Below.refl _ _) rfl)⟩
      · obtain rfl := Option.some.inj (show some _ = some o from ho)
        obtain rfl := Option.some.inj (show some _ = some t from ht)
        exact ⟨want_none rfl, fun K hK => st_ret own_size (ev1 (hdep ⟨3, .data⟩ (by simp) rfl _ rfl)) (rsize_any b x) HMB (fun x' h1 => hK _ x' ⟨hs.1.call h1, hs.2.mono h1.size⟩ h1 rfl)⟩
      · obtain rfl := Option.some.inj (show some _ = some o from ho)
        obtain rfl := Option.some.inj (show some _ = some t from ht)
        exact ⟨want_none rfl, fun K hK => st_divide 56 58 59 ma mb 256 q r (by omega) (hi256 hma.out) hmb hb2 HQ HR (hdep ⟨2, .data⟩ (by simp) rfl _ rfl) (hdep ⟨4, .data⟩ (by simp) rfl _ rfl) (fun x' h1 => hK _ x' ⟨hs.1.call h1, hs.2.mono h1.size⟩ h1 rfl)⟩
      · obtain rfl := Option.some.inj (show some _ = some o from ho)
        obtain rfl := Option.some.inj (show some _ = some t from ht)
        exact ⟨want_none rfl, fun K hK => st_move 59 53 _ (hdep ⟨5, .data⟩ (by simp) rfl _ rfl) (hK _ x hs (Below.refl _ _) rfl)⟩
      · obtain rfl := Option.some.inj (show some _ = some o from ho)
        obtain rfl := Option.some.inj (show some _ = some t from ht)
        exact ⟨want_none rfl, fun K hK => st_ext0 53 60 _ _ (hdep ⟨6, .data⟩ (by simp) rfl _ rfl) (hK _ x hs (Below.refl _ _) rfl)⟩
      · obtain rfl := Option.some.inj (show some _ = some o from ho)
        obtain rfl := Option.some.inj (show some _ = some t from ht)
        exact ⟨want_none rfl, fun K hK => st_ext1 53 61 _ _ (hdep ⟨6, .data⟩ (by simp) rfl _ rfl) (hK _ x hs (Below.refl _ _) rfl)⟩
      · obtain rfl := Option.some.inj (show some _ = some o from ho)
        obtain rfl := Option.some.inj (show some _ = some t from ht)
        exact ⟨want_none rfl, fun K hK => st_alloc 15 (hK _ _ ⟨hs.1.alloc _, hs.2.fst _⟩ (bel_alloc _ _) ⟨_, _, rfl, hs.1.rz.lt, row_lit4 (fun _ => 0) rfl rfl rfl rfl rfl⟩)⟩
      · obtain rfl := Option.some.inj (show some _ = some o from ho)
        obtain rfl := Option.some.inj (show some _ = some t from ht)
        exact ⟨want_none rfl, fun K hK => st_alloc 16 (hK _ _ ⟨hs.1.alloc _, hs.2.snd _⟩ (bel_alloc _ _) ⟨_, _, rfl, hs.1.rz.lt, row_lit4 (fun _ => 0) rfl rfl rfl rfl rfl⟩)⟩
      · obtain rfl := Option.some.inj (show some _ = some o from ho)
        obtain rfl := Option.some.inj (show some _ = some t from ht)
        exact ⟨want_none rfl, fun K hK => by obtain ⟨p, f, hp1, hp2, hp3⟩ := (hdep ⟨9, .data⟩ (by simp) rfl _ rfl); exact st_storew hp1 (hdep ⟨7, .data⟩ (by simp) rfl _ rfl) hp3 fun x' h1 h2 => hK undef x' ⟨hs.1.put hp2 h2, hs.2.mono (Nat.le_of_eq (put4_size h2).symm)⟩ ⟨p, f, _, _, _, _, hp1, hp2, hp3, h2⟩ ⟨p, hp1, hp2, h1⟩⟩
      · obtain rfl := Option.some.inj (show some _ = some o from ho)
        obtain rfl := Option.some.inj (show some _ = some t from ht)
        exact ⟨want_none rfl, fun K hK => by obtain ⟨p, f, hp1, hp2, hp3⟩ := (hdep ⟨10, .data⟩ (by simp) rfl _ rfl); exact st_storew hp1 (hdep ⟨8, .data⟩ (by simp) rfl _ rfl) hp3 fun x' h1 h2 => hK undef x' ⟨hs.1.put hp2 h2, hs.2.mono (Nat.le_of_eq (put4_size h2).symm)⟩ ⟨p, f, _, _, _, _, hp1, hp2, hp3, h2⟩ ⟨p, hp1, hp2, h1⟩⟩
    · intro e vs x hl he hbe hs hT
      obtain ⟨v0, v1, v2, v3, v4, v5, v6, v7, v8, v9, v10, v11, v12, rfl⟩ := len13 hl
      have h0 : (fun l x => l.getD 0 undef = wv a) [v0] x := by
        have h := hT 0 _ rfl
        have hh : (fun l x => l.getD 0 undef = wv a) [e 54] x := h
        rw [show e 54 = v0 from he 0 54 _ rfl rfl] at hh
        exact hh
      have h1 : (fun l x => l.getD 0 undef = wv ma) [v1] x := by
        have h := hT 1 _ rfl
        have hh : (fun l x => l.getD 0 undef = wv ma) [e 55] x := h
        rw [show e 55 = v1 from he 1 55 _ rfl rfl] at hh
        exact hh
      have h2 : (fun l x => SliceOf 256 ma (l.getD 0 undef) x) [v2] x := by
        have h := hT 2 _ rfl
        have hh : (fun l x => SliceOf 256 ma (l.getD 0 undef) x) [e 56] x := h
        rw [show e 56 = v2 from he 2 56 _ rfl rfl] at hh
        exact hh
      have h3 : (fun l x => l.getD 0 undef = wv b) [v3] x := by
        have h := hT 3 _ rfl
        have hh : (fun l x => l.getD 0 undef = wv b) [e 57] x := h
        rw [show e 57 = v3 from he 3 57 _ rfl rfl] at hh
        exact hh
      have h4 : (fun l x => l.getD 0 undef = wv mb) [v4] x := by
        have h := hT 4 _ rfl
        have hh : (fun l x => l.getD 0 undef = wv mb) [e 58] x := h
        rw [show e 58 = v4 from he 4 58 _ rfl rfl] at hh
        exact hh
      have h5 : (fun l x => l.getD 0 undef = .tuple #[wv q, wv r]) [v5] x := by
        have h := hT 5 _ rfl
        have hh : (fun l x => l.getD 0 undef = .tuple #[wv q, wv r]) [e 59] x := h
        rw [show e 59 = v5 from he 5 59 _ rfl rfl] at hh
        exact hh
      have h6 : (fun l x => l.getD 0 undef = .tuple #[wv q, wv r]) [v6] x := by
        have h := hT 6 _ rfl
        have hh : (fun l x => l.getD 0 undef = .tuple #[wv q, wv r]) [e 53] x := h
        rw [show e 53 = v6 from he 6 53 _ rfl rfl] at hh
        exact hh
      have h7 : (fun l x => l.getD 0 undef = wv q) [v7] x := by
        have h := hT 7 _ rfl
        have hh : (fun l x => l.getD 0 undef = wv q) [e 60] x := h
        rw [show e 60 = v7 from he 7 60 _ rfl rfl] at hh
        exact hh
      have h8 : (fun l x => l.getD 0 undef = wv r) [v8] x := by
        have h := hT 8 _ rfl
        have hh : (fun l x => l.getD 0 undef = wv r) [e 61] x := h
        rw [show e 61 = v8 from he 8 61 _ rfl rfl] at hh
        exact hh
      have h9 : (fun l x => PtrRow (w.heap.size + 1 + 1 + 1) (l.getD 0 undef) x) [v9] x := by
        have h := hT 9 _ rfl
        have hh : (fun l x => PtrRow (w.heap.size + 1 + 1 + 1) (l.getD 0 undef) x) [e 15] x := h
        rw [show e 15 = v9 from he 9 15 _ rfl rfl] at hh
        exact hh
      have h10 : (fun l x => PtrRow (w.heap.size + 1 + 1 + 1) (l.getD 0 undef) x) [v10] x := by
        have h := hT 10 _ rfl
        have hh : (fun l x => PtrRow (w.heap.size + 1 + 1 + 1) (l.getD 0 undef) x) [e 16] x := h
        rw [show e 16 = v10 from he 10 16 _ rfl rfl] at hh
        exact hh
      have h11 : (fun l x => PtrIs (w.heap.size + 1 + 1 + 1) q (l.getD 0 undef) x) [v9] x := by
        have h := hT 11 _ rfl
        have hh : (fun l x => PtrIs (w.heap.size + 1 + 1 + 1) q (l.getD 0 undef) x) [e 15] x := h
        rw [show e 15 = v9 from he 9 15 _ rfl rfl] at hh
        exact hh
      have h12 : (fun l x => PtrIs (w.heap.size + 1 + 1 + 1) r (l.getD 0 undef) x) [v10] x := by
        have h := hT 12 _ rfl
        have hh : (fun l x => PtrIs (w.heap.size + 1 + 1 + 1) r (l.getD 0 undef) x) [e 16] x := h
        rw [show e 16 = v10 from he 10 16 _ rfl rfl] at hh
        exact hh
      have hS : (fun l x => RC w a b c x ∧ Two x (l.getD 0 undef) (l.getD 1 undef)) [v9, v10] x := by
        have hh : (fun l x => RC w a b c x ∧ Two x (l.getD 0 undef) (l.getD 1 undef)) [e 15, e 16] x := hs
        rw [show e 15 = v9 from he 9 15 _ rfl rfl] at hh
        rw [show e 16 = v10 from he 10 16 _ rfl rfl] at hh
        exact hh
      clear hl hT he hbe hs
      rw [show zips [some 54, some 55, some 56, some 57, some 58, some 59, some 53, some 60, some 61, some 15, some 16, none, none] [v0, v1, v2, v3, v4, v5, v6, v7, v8, v9, v10, v11, v12] = [(54, v0), (55, v1), (56, v2), (57, v3), (58, v4), (59, v5), (53, v6), (60, v7), (61, v8), (15, v9), (16, v10)] from rfl]
      simp only [fill, List.foldl, Act.put, List.setIfInBounds_toArray, List.set_cons_zero, List.set_cons_succ]
      obtain ⟨p1, rfl, hp1, hr1⟩ := h11
      obtain ⟨p2, rfl, hp2, hr2⟩ := h12
      have hne : p1 ≠ p2 := hS.2.2.2 p1 p2 rfl rfl
      have hq : RQ w a b c p1 p2 q r x := ⟨hS.1, hr1, hr2⟩
      clear hr1 hr2 hS h0 h1 h2 h3 h4 h5 h6 h7 h8 h9 h10 hs
      obtain ⟨na, HA⟩ : ∃ n, Hid (neg a = n) := ⟨_, rfl⟩
      obtain ⟨nb, HB⟩ : ∃ n, Hid (neg b = n) := ⟨_, rfl⟩
      go_wp2
      refine wp_region_table (by kernel_rfl) (RQ w a b c p1 p2 q r) [(62, wv a), (63, .bool na), (64, wv b), (65, .bool nb), (66, .bool (na != nb))] (by kernel_rfl) rfl (by kernel_rfl) (by kernel_rfl) hq.drew [(5, .pointer (some ⟨w.heap.size, 0, none⟩)), (6, .pointer (some ⟨w.heap.size + 1, 0, none⟩))] (by intro p hp; simp only [List.mem_cons, List.not_mem_nil, or_false] at hp; rcases hp with rfl | rfl <;> rfl) (by kernel_rfl) [] (fun p hp => by cases hp) ?_ ?_
      · as_aux_lemma =>
        intro i o d v ho ht s x hs hb hb2 hdep
        have hi : i < 5 := (Array.getElem?_eq_some_iff.1 ho).1
        rcases q5 hi with rfl | rfl | rfl | rfl | rfl
        · obtain rfl := Option.some.inj (show some _ = some o from ho)
          obtain ⟨rfl, rfl⟩ := Prod.mk.inj (Option.some.inj (show some (_, _) = some (d, v) from ht))
          exact Or.inl ⟨want_none rfl, fun K hK => st_load 5 62 _ _ (hb _ (List.Mem.head _)) hs.rc.ra (hK x hs)⟩
        · obtain rfl := Option.some.inj (show some _ = some o from ho)
          obtain ⟨rfl, rfl⟩ := Prod.mk.inj (Option.some.inj (show some (_, _) = some (d, v) from ht))
          exact Or.inl ⟨want_none rfl, fun K hK => st_bool _ 62 63 a na own_minus (fun w => by have h := rminus_any a w; rw [HA.out] at h; exact h) (hdep ⟨0, .data⟩ (by simp) rfl _ _ rfl) (fun x' h1 => hK x' (hs.call h1))⟩
        · obtain rfl := Option.some.inj (show some _ = some o from ho)
          obtain ⟨rfl, rfl⟩ := Prod.mk.inj (Option.some.inj (show some (_, _) = some (d, v) from ht))
          exact Or.inl ⟨want_none rfl, fun K hK => st_load 6 64 _ _ (hb _ (List.Mem.tail _ (List.Mem.head _))) hs.rc.rb (hK x hs)⟩
        · obtain rfl := Option.some.inj (show some _ = some o from ho)
          obtain ⟨rfl, rfl⟩ := Prod.mk.inj (Option.some.inj (show some (_, _) = some (d, v) from ht))
          exact Or.inl ⟨want_none rfl, fun K hK => st_bool _ 64 65 b nb own_minus (fun w => by have h := rminus_any b w; rw [HB.out] at h; exact h) (hdep ⟨2, .data⟩ (by simp) rfl _ _ rfl) (fun x' h1 => hK x' (hs.call h1))⟩
        · obtain rfl := Option.some.inj (show some _ = some o from ho)
          obtain ⟨rfl, rfl⟩ := Prod.mk.inj (Option.some.inj (show some (_, _) = some (d, v) from ht))
          exact Or.inl ⟨want_none rfl, fun K hK => st_neqb 63 65 66 na nb (hdep ⟨1, .data⟩ (by simp) rfl _ _ rfl) (hdep ⟨3, .data⟩ (by simp) rfl _ _ rfl) (hK x hs)⟩
      · intro x2 hq2
        clear hq
        have hq := hq2
        clear hq2
        simp only [fill, List.foldl, Act.put, List.setIfInBounds_toArray, List.set_cons_zero, List.set_cons_succ]
        obtain ⟨tt, HTT⟩ : ∃ t, Hid (t = (na != nb)) := ⟨_, rfl⟩
        rw [← HTT.out]
        go_upto_if 66 with fail
        go_cut [10] (fun t10 wx => ∃ s1 : Nat, t10 = .bool false ∧ RQ w a b c p1 p2 s1 r wx ∧ Hid (s1 = if tt then fneg (q % M) else q))
        case first =>
          as_aux_lemma =>
          cases tt
          · go_wp2_with fail
            go_meet
            case rel => exact ⟨q, rfl, hq, rfl⟩
          · obtain ⟨c0, c1, c2, c3⟩ := row_cells4 hq.r1
            go_wp2_with fail
            refine (rneg_any q _).mono ?_
            rintro e w2 ⟨s1, HS1, rfl, hb⟩
            replace hq := hq.call hb
            clear hb c0 c1 c2 c3
            obtain ⟨c0, c1, c2, c3⟩ := row_cells4 hq.r1
            have fz := hq.r1.frozen
            go_wp2_with fail
            go_meet
            case rel => exact ⟨s1, rfl, hq.put1 hp1 hne s1, HS1⟩
        case rest =>
          as_aux_lemma =>
          clear hq
          obtain ⟨s1, rfl, hq, HS1⟩ := hcut
          obtain ⟨a0, a1, a2, a3⟩ := row_cells4 hq.rc.ra
          go_wp2_with fail
          refine (rminus_any a _).mono ?_
          rintro e w3 ⟨rfl, hb⟩
          replace hq := hq.call hb
          clear hb a0 a1 a2 a3
          rw [HA.out]
          go_upto_if 70 with fail
          go_cut [10] (fun t10 wx => ∃ s2 : Nat, t10 = .bool false ∧ RQ w a b c p1 p2 s1 s2 wx ∧ Hid (s2 = if na then fneg (r % M) else r))
          case first =>
            as_aux_lemma =>
            cases na
            · go_wp2_with fail
              go_meet
              case rel => exact ⟨r, rfl, hq, rfl⟩
            · obtain ⟨c0, c1, c2, c3⟩ := row_cells4 hq.r2
              go_wp2_with fail
              refine (rneg_any r _).mono ?_
              rintro e w4 ⟨s2, HS2, rfl, hb⟩
              replace hq := hq.call hb
              clear hb c0 c1 c2 c3
              obtain ⟨c0, c1, c2, c3⟩ := row_cells4 hq.r2
              have fz := hq.r2.frozen
              go_wp2_with fail
              go_meet
              case rel => exact ⟨s2, rfl, hq.put2 hp2 hne s2, HS2⟩
          case rest =>
            as_aux_lemma =>
            clear hq
            obtain ⟨s2, rfl, hq, HS2⟩ := hcut
            obtain ⟨d0, d1, d2, d3⟩ := row_cells4 hq.r1
            obtain ⟨e0, e1, e2, e3⟩ := row_cells4 hq.r2
            obtain ⟨x0, x1, x2, x3⟩ := row_cells4 hq.rc.rz
            have fz := hq.rc.rz.frozen
            go_wp2
            obtain ⟨q0, q1, q2, q3⟩ := row_cells4 (row_put4 hq.rc.rz (limb s2) rfl rfl rfl rfl)
            refine bodyPost_ret (v := wv s2) (by simp [results, Try.results19, go_sem, q0, q1, q2, q3]) rfl (ret_mk (smod_n a b r s2 na HA.out HF.out (by rw [HR.out, HMA.out, HMB.out, Nat.mod_eq_of_lt ha.out, Nat.mod_eq_of_lt hb0.out]) HS2.out HRL.out) ?_)
            exact below_put4 hq.rc.be (by omega) _ _ _ _
end cin
end Go.Proofs.Ytohoajjdoihekaa
