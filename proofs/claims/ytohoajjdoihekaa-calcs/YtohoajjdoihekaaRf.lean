/-
  The walk of the document's answer: a number divided by a word, bit by bit from the highest.
-/
import Derived.Test.YtohoajjdoihekaaRe
import Derived.Deep.DeepCutAuto
set_option linter.unusedVariables false
set_option linter.unusedSimpArgs false
namespace Go.Proofs.Ytohoajjdoihekaa
open Go.RowKit
namespace cin
theorem wu (z : Int) : IntKind.u64.wrap z = z % 18446744073709551616 := by rw [IntKind.wrap_u64]
theorem td (R k : Nat) : (limb R k).tdiv 9223372036854775808 = limb R k / 9223372036854775808 := Int.tdiv_eq_ediv_of_nonneg (limb_lo R k)
theorem high_num (R : Nat) (h : R < M) : (IntKind.u64.wrap ((limb R 3).tdiv 9223372036854775808) == 1) = decide (M ≤ 2 * R) := by
  rw [wu, td]
  unfold limb M at *
  rw [pw3, Bool.eq_iff_iff]
  simp only [beq_iff_eq, decide_eq_true_eq]
  omega
theorem dbl0 (R : Nat) : IntKind.u64.wrap (2 * limb R 0) = limb (2 * R) 0 := by rw [wu]; unfold limb; rw [pw0]; omega
theorem dbl1 (R : Nat) : IntKind.u64.wrap (IntKind.u64.wrap (2 * limb R 1) + IntKind.u64.wrap ((limb R 0).tdiv 9223372036854775808)) = limb (2 * R) 1 := by rw [wu, wu, wu, td]; unfold limb; rw [pw0, pw1]; omega
theorem dbl2 (R : Nat) : IntKind.u64.wrap (IntKind.u64.wrap (2 * limb R 2) + IntKind.u64.wrap ((limb R 1).tdiv 9223372036854775808)) = limb (2 * R) 2 := by rw [wu, wu, wu, td]; unfold limb; rw [pw1, pw2]; omega
theorem dbl3 (R : Nat) : IntKind.u64.wrap (IntKind.u64.wrap (2 * limb R 3) + IntKind.u64.wrap ((limb R 2).tdiv 9223372036854775808)) = limb (2 * R) 3 := by rw [wu, wu, wu, td]; unfold limb; rw [pw2, pw3]; omega
theorem inc0 (R : Nat) : IntKind.u64.wrap (IntKind.u64.wrap (2 * limb R 0) + 1) = limb (2 * R + 1) 0 := by rw [wu, wu]; unfold limb; rw [pw0]; omega
theorem inck (R k : Nat) (hk : 1 ≤ k) (h4 : k < 4) : limb (2 * R) k = limb (2 * R + 1) k := by
  unfold limb
  rcases k4 h4 with rfl | rfl | rfl | rfl
  · omega
  · rw [pw1]; omega
  · rw [pw2]; omega
  · rw [pw3]; omega
theorem row_dbl {x : World} {b R D : Nat} {t : TypeId} {g : Nat → Value} (h : x.rowIs b t 4 g) (hD : D = 2 * R) :
    ((((x.setCell ⟨b, 3, none⟩ (.int .u64 (IntKind.u64.wrap (IntKind.u64.wrap (2 * limb R 3) + IntKind.u64.wrap ((limb R 2).tdiv 9223372036854775808))))).setCell ⟨b, 2, none⟩ (.int .u64 (IntKind.u64.wrap (IntKind.u64.wrap (2 * limb R 2) + IntKind.u64.wrap ((limb R 1).tdiv 9223372036854775808))))).setCell ⟨b, 1, none⟩ (.int .u64 (IntKind.u64.wrap (IntKind.u64.wrap (2 * limb R 1) + IntKind.u64.wrap ((limb R 0).tdiv 9223372036854775808))))).setCell ⟨b, 0, none⟩ (.int .u64 (IntKind.u64.wrap (2 * limb R 0)))).rowIs b t 4 (u64s (limb D)) := by
  subst hD
  rw [dbl0, dbl1, dbl2, dbl3]
  refine ((((h.set 3 _).set 2 _).set 1 _).set 0 _).congr fun i hi => ?_
  rcases k4 hi with rfl | rfl | rfl | rfl <;> rfl
theorem row_inc {x : World} {b R D : Nat} {t : TypeId} {g : Nat → Value} (h : x.rowIs b t 4 g) (hD : D = 2 * R + 1) :
    (((((x.setCell ⟨b, 3, none⟩ (.int .u64 (IntKind.u64.wrap (IntKind.u64.wrap (2 * limb R 3) + IntKind.u64.wrap ((limb R 2).tdiv 9223372036854775808))))).setCell ⟨b, 2, none⟩ (.int .u64 (IntKind.u64.wrap (IntKind.u64.wrap (2 * limb R 2) + IntKind.u64.wrap ((limb R 1).tdiv 9223372036854775808))))).setCell ⟨b, 1, none⟩ (.int .u64 (IntKind.u64.wrap (IntKind.u64.wrap (2 * limb R 1) + IntKind.u64.wrap ((limb R 0).tdiv 9223372036854775808))))).setCell ⟨b, 0, none⟩ (.int .u64 (IntKind.u64.wrap (2 * limb R 0)))).setCell ⟨b, 0, none⟩ (.int .u64 (IntKind.u64.wrap (IntKind.u64.wrap (2 * limb R 0) + 1)))).rowIs b t 4 (u64s (limb D)) := by
  subst hD
  rw [inc0, dbl1, dbl2, dbl3]
  refine (((((h.set 3 _).set 2 _).set 1 _).set 0 _).set 0 _).congr fun i hi => ?_
  rcases k4 hi with rfl | rfl | rfl | rfl
  · rfl
  · exact congrArg (Value.int IntKind.u64) (inck R 1 (by omega) (by omega))
  · exact congrArg (Value.int IntKind.u64) (inck R 2 (by omega) (by omega))
  · exact congrArg (Value.int IntKind.u64) (inck R 3 (by omega) (by omega))
/-- a step of the division, in words -/
theorem dv_num {R b D t : Nat} (hR : R < b) (hb : b < M) (ht : t ≤ 1) (hD : D = 2 * R + t) :
    (decide (M ≤ 2 * R) || !ltw D b) = decide (b ≤ D) ∧ (b ≤ D → fsub (D % M) (b % M) = D - b) ∧ (¬ b ≤ D → D % M = D) := by
  unfold ltw fsub M at *
  refine ⟨?_, ?_, ?_⟩
  · rw [Nat.mod_eq_of_lt hb]
    by_cases h1 : 115792089237316195423570985008687907853269984665640564039457584007913129639936 ≤ 2 * R
    · rw [decide_eq_true h1, decide_eq_true (show b ≤ D by omega)]; rfl
    · rw [decide_eq_false h1, Bool.false_or]
      by_cases h2 : b ≤ D
      · rw [decide_eq_true h2, decide_eq_false (show ¬ D % 115792089237316195423570985008687907853269984665640564039457584007913129639936 < b by omega)]; rfl
      · rw [decide_eq_false h2, decide_eq_true (show D % 115792089237316195423570985008687907853269984665640564039457584007913129639936 < b by omega)]; rfl
  · intro h; omega
  · intro h; omega
/-- a call that gives the quotient and the rest -/
def DivOf (w : World) (n b : Nat) (e : Ending) (w' : World) : Prop := ∃ q r : Nat, Hid (q = n / b) ∧ Hid (r = n % b) ∧ e = .returned (.tuple #[wv q, wv r]) ∧ Below w.heap.size w w'
structure DV (w : World) (n b p L : Nat) (x : World) : Prop where
  rl : x.rowIs p 4 L (bools n.testBit)
  hp : p < w.heap.size
  rb : x.rowIs w.heap.size 24 4 (u64s (limb b))
  r1 : x.rowIs (w.heap.size + 1) 24 4 (u64s fun _ => 0)
  r2 : x.rowIs (w.heap.size + 1 + 1) 24 4 (u64s fun _ => 0)
  be : Below w.heap.size w x
theorem DV.set {w : World} {n b p L : Nat} {x : World} (h : DV w n b p L x) {a : Addr} (ha : w.heap.size + 1 + 1 < a.block) (v : Value) : DV w n b p L (x.setCell a v) :=
  ⟨h.rl.setOther (by have := h.hp; omega) _, h.hp, h.rb.setOther (by omega) _, h.r1.setOther (by omega) _, h.r2.setOther (by omega) _, h.be.setCell (by omega) _⟩
theorem DV.call {w : World} {n b p L : Nat} {x y : World} (h : DV w n b p L x) (hb : Below x.heap.size x y) : DV w n b p L y :=
  ⟨row_below h.rl hb, h.hp, row_below h.rb hb, row_below h.r1 hb, row_below h.r2 hb, bcall h.be hb⟩
theorem DV.drew {w : World} {n b p L : Nat} {x : World} (h : DV w n b p L x) : DV w n b p L x.drew := ⟨h.rl, h.hp, h.rb, h.r1, h.r2, h.be.drew⟩
theorem put4_other {x x' : World} {b : Nat} {v0 v1 v2 v3 : Value} (e : x' = (((x.setCell ⟨b, 0, none⟩ v0).setCell ⟨b, 1, none⟩ v1).setCell ⟨b, 2, none⟩ v2).setCell ⟨b, 3, none⟩ v3) (c : Nat) (hc : c ≠ b) : x'.heap[c]? = x.heap[c]? := by
  subst e
  rw [Go.Deep.blk_setCell_other _ _ _ _ hc, Go.Deep.blk_setCell_other _ _ _ _ hc, Go.Deep.blk_setCell_other _ _ _ _ hc, Go.Deep.blk_setCell_other _ _ _ _ hc]
structure DZ (w : World) (q R L : Nat) (x : World) : Prop where
  ro : x.rowIs (w.heap.size + 1 + 1 + 1) 4 L (bools q.testBit)
  rr : x.rowIs (w.heap.size + 1 + 1 + 1 + 1) 24 4 (u64s (limb R))
  r1 : ∃ f, x.rowIs (w.heap.size + 1) 24 4 f
  r2 : ∃ f, x.rowIs (w.heap.size + 1 + 1) 24 4 f
  be : Below w.heap.size w x
theorem DZ.drew {w : World} {q R L : Nat} {x : World} (h : DZ w q R L x) : DZ w q R L x.drew := ⟨h.ro, h.rr, h.r1, h.r2, h.be.drew⟩
theorem DZ.call {w : World} {q R L : Nat} {x y : World} (h : DZ w q R L x) (hb : Below x.heap.size x y) : DZ w q R L y :=
  ⟨row_below h.ro hb, row_below h.rr hb, h.r1.elim fun f h => ⟨f, row_below h hb⟩, h.r2.elim fun f h => ⟨f, row_below h hb⟩, bcall h.be hb⟩
theorem DZ.put1 {w : World} {q R L n : Nat} {x x' : World} (h : DZ w q R L x) (hr : x'.rowIs (w.heap.size + 1) 24 4 (u64s (limb n))) {v0 v1 v2 v3 : Value} (e : x' = (((x.setCell ⟨w.heap.size + 1, 0, none⟩ v0).setCell ⟨w.heap.size + 1, 1, none⟩ v1).setCell ⟨w.heap.size + 1, 2, none⟩ v2).setCell ⟨w.heap.size + 1, 3, none⟩ v3) : DZ w q R L x' :=
  ⟨h.ro.of_block (put4_other e _ (by omega)), h.rr.of_block (put4_other e _ (by omega)), ⟨_, hr⟩, h.r2.elim fun f h => ⟨f, h.of_block (put4_other e _ (by omega))⟩, by subst e; exact below_put4 h.be (by omega) _ _ _ _⟩
theorem DZ.put2 {w : World} {q R L n : Nat} {x x' : World} (h : DZ w q R L x) (hr : x'.rowIs (w.heap.size + 1 + 1) 24 4 (u64s (limb n))) {v0 v1 v2 v3 : Value} (e : x' = (((x.setCell ⟨w.heap.size + 1 + 1, 0, none⟩ v0).setCell ⟨w.heap.size + 1 + 1, 1, none⟩ v1).setCell ⟨w.heap.size + 1 + 1, 2, none⟩ v2).setCell ⟨w.heap.size + 1 + 1, 3, none⟩ v3) : DZ w q R L x' :=
  ⟨h.ro.of_block (put4_other e _ (by omega)), h.rr.of_block (put4_other e _ (by omega)), h.r1.elim fun f h => ⟨f, h.of_block (put4_other e _ (by omega))⟩, ⟨_, hr⟩, by subst e; exact below_put4 h.be (by omega) _ _ _ _⟩
set_option maxRecDepth 100000 in
set_option maxHeartbeats 4000000 in
theorem rdivide_any (n b p L c : Nat) (hL : L ≤ 100000) (hn : Hid (∀ j, L ≤ j → n.testBit j = false)) (hb0 : Hid (b < M)) (hb1 : Hid (0 < b)) (w : World) (hl : w.rowIs p 4 L (bools n.testBit)) :
    Calls Try.prog 51 #[.slice (some ⟨p, 0, none⟩) L c, wv b] w (DivOf w n b) := by
  have hmk := make_bits L (by omega)
  have HL : Hid (n < 2 ^ L) := Nat.lt_pow_two_of_testBit n fun i hi => hn.out i hi
  have hp := hl.lt
  go_enter Try.func51, Try.ntmps51
  go_wp2
  go_loopw [8] (fun t8 wr => ∃ i R : Nat, i ≤ L ∧ t8 = .int .i64 ((i : Int) - 1) ∧ DV w n b p L wr ∧ wr.rowIs (w.heap.size + 1 + 1 + 1) 4 L (bools fun j => if i ≤ j then (n / b).testBit j else false) ∧
      wr.rowIs (w.heap.size + 1 + 1 + 1 + 1) 24 4 (u64s (limb R)) ∧ Hid (R = n / 2 ^ i % b))
     (fun t8 _ => (intOf t8 + 1).toNat)
  case atStart =>
    refine ⟨L, 0, Nat.le_refl _, rfl, ?_, ?_, ?_, ?_⟩
    · refine ⟨((((hl.alloc _).alloc _).alloc _).alloc _).alloc _, hp, ((((row_lit4 (limb b) rfl rfl rfl rfl rfl).alloc _).alloc _).alloc _).alloc _, (((row_lit4 (fun _ => 0) (by simp) rfl rfl rfl rfl).alloc _).alloc _).alloc _, ((row_lit4 (fun _ => 0) (by simp) rfl rfl rfl rfl).alloc _).alloc _, bal (bal (bal (bal (bal (Below.refl _ _) _) _) _) _) _⟩
    · exact (rowb_made (by simp) fun j hj => by rw [if_neg (by omega)]).alloc _
    · exact row_lit4 (limb 0) (by simp) (limb_zero 0).symm (limb_zero 1).symm (limb_zero 2).symm (limb_zero 3).symm
    · show _ = _
      rw [Nat.div_eq_of_lt HL.out, Nat.zero_mod]
  case round =>
    clear hmk
    obtain ⟨i, R, hi, rfl, hs, hro, hrr, HR⟩ := hrel
    by_cases hlt : i = 0
    · as_aux_lemma =>
      subst hlt
      obtain ⟨q, HQ⟩ : ∃ q, Hid (q = n / b) := ⟨_, rfl⟩
      have HQH : Hid (∀ j, L ≤ j → q.testBit j = false) := fun j hj => by rw [HQ.out]; exact tb_high (Nat.lt_of_le_of_lt (Nat.div_le_self _ _) HL.out) hj
      have hz : DZ w q R L wr := ⟨hro.congr fun j hj => by simp only [bools]; rw [if_pos (Nat.zero_le _), HQ.out], hrr, ⟨_, hs.r1⟩, ⟨_, hs.r2⟩, hs.be⟩
      have HR0 : Hid (R = n % b) := by show _ = _; rw [HR.out, Nat.pow_zero, Nat.div_one]
      clear hro hrr hs HL
      go_wp2
      refine wp_region_pred (by kernel_rfl) (DZ w q R L) (fun i x x' => if i = 3 then ∀ c, c ≠ w.heap.size + 1 → x'.heap[c]? = x.heap[c]? else if i = 4 then ∀ c, c ≠ w.heap.size + 1 + 1 → x'.heap[c]? = x.heap[c]? else Below x.heap.size x x') [(some 75, fun v _ => v = .slice (some ⟨w.heap.size + 1 + 1 + 1, 0, none⟩) L L), (some 76, fun v _ => v = wv q), (some 77, fun v _ => v = wv R), (none, fun _ x => x.rowIs (w.heap.size + 1) 24 4 (u64s (limb q))), (none, fun _ x => x.rowIs (w.heap.size + 1 + 1) 24 4 (u64s (limb R)))] (by kernel_rfl) rfl (by kernel_rfl) (by kernel_rfl) hz.drew [(6, .slice (some ⟨w.heap.size + 1 + 1 + 1, 0, none⟩) L L), (4, .pointer (some ⟨w.heap.size + 1, 0, none⟩)), (5, .pointer (some ⟨w.heap.size + 1 + 1, 0, none⟩)), (7, .pointer (some ⟨w.heap.size + 1 + 1 + 1 + 1, 0, none⟩))] (by intro p hp; simp only [List.mem_cons, List.not_mem_nil, or_false] at hp; rcases hp with rfl | rfl | rfl | rfl <;> rfl) (by kernel_rfl) ?_ ?_ ?_
      · as_aux_lemma =>
        intro i j d T h hij v x x' hs hr ht
        have hj : j < 5 := (List.getElem?_eq_some_iff.1 h).1
        rcases p5 hj with rfl | rfl | rfl | rfl | rfl <;> obtain ⟨rfl, rfl⟩ := Prod.mk.inj (Option.some.inj (show some (_, _) = some (d, T) from h)) <;> (first | exact ht | (by_cases h4 : i = 4; (subst h4; exact ht.of_block (hr _ (by omega))); (rw [if_neg hij, if_neg h4] at hr; exact row_below ht hr)) | (by_cases h3 : i = 3; (subst h3; exact ht.of_block (hr _ (by omega))); (rw [if_neg h3, if_neg hij] at hr; exact row_below ht hr)))
      · as_aux_lemma =>
        intro i o d T ho ht s x hs hb hdep
        have hi : i < 5 := (Array.getElem?_eq_some_iff.1 ho).1
        rcases p5 hi with rfl | rfl | rfl | rfl | rfl
        · obtain rfl := Option.some.inj (show some _ = some o from ho)
          obtain ⟨rfl, rfl⟩ := Prod.mk.inj (Option.some.inj (show some (_, _) = some (d, T) from ht))
          exact ⟨want_none rfl, fun K hK => st_move 6 75 _ (hb _ (List.Mem.head _)) (hK _ x hs (Below.refl _ _) (fun h => by cases h) rfl)⟩
        · obtain rfl := Option.some.inj (show some _ = some o from ho)
          obtain ⟨rfl, rfl⟩ := Prod.mk.inj (Option.some.inj (show some (_, _) = some (d, T) from ht))
          exact ⟨want_none rfl, fun K hK => st_call own_WordOf (ev1 (hdep ⟨0, .data⟩ (by simp) rfl _ _ rfl)) (wordOf_any q L (w.heap.size + 1 + 1 + 1) L hL HQH x hs.ro) fun e x' h1 => ⟨_, h1.1, hK _ x' (hs.call h1.2) h1.2 (fun h => by cases h) rfl⟩⟩
        · obtain rfl := Option.some.inj (show some _ = some o from ho)
          obtain ⟨rfl, rfl⟩ := Prod.mk.inj (Option.some.inj (show some (_, _) = some (d, T) from ht))
          exact ⟨want_none rfl, fun K hK => st_load 7 77 _ _ (hb _ (List.Mem.tail _ (List.Mem.tail _ (List.Mem.tail _ (List.Mem.head _))))) hs.rr (hK _ x hs (Below.refl _ _) (fun h => by cases h) rfl)⟩
        · obtain rfl := Option.some.inj (show some _ = some o from ho)
          obtain ⟨rfl, rfl⟩ := Prod.mk.inj (Option.some.inj (show some (_, _) = some (d, T) from ht))
          exact ⟨want_none rfl, fun K hK => hs.r1.elim fun f hf => st_storew (hb _ (List.Mem.tail _ (List.Mem.head _))) (hdep ⟨1, .data⟩ (by simp) rfl _ _ rfl) hf fun x' h1 h2 => hK undef x' (hs.put1 h1 h2) (put4_other h2) (fun _ => rfl) h1⟩
        · obtain rfl := Option.some.inj (show some _ = some o from ho)
          obtain ⟨rfl, rfl⟩ := Prod.mk.inj (Option.some.inj (show some (_, _) = some (d, T) from ht))
          exact ⟨want_none rfl, fun K hK => hs.r2.elim fun f hf => st_storew (hb _ (List.Mem.tail _ (List.Mem.tail _ (List.Mem.head _)))) (hdep ⟨2, .data⟩ (by simp) rfl _ _ rfl) hf fun x' h1 h2 => hK undef x' (hs.put2 h1 h2) (put4_other h2) (fun _ => rfl) h1⟩
      · intro vs x hs hl hT
        obtain ⟨v0, v1, v2, v3, v4, rfl⟩ := len5 hl
        have h0 : (fun v _ => v = .slice (some ⟨w.heap.size + 1 + 1 + 1, 0, none⟩) L L) v0 x := hT 0 _ _ rfl
        have h1 : (fun v _ => v = wv q) v1 x := hT 1 _ _ rfl
        have h2 : (fun v _ => v = wv R) v2 x := hT 2 _ _ rfl
        have h3 : (fun _ x => x.rowIs (w.heap.size + 1) 24 4 (u64s (limb q))) v3 x := hT 3 _ _ rfl
        have h4 : (fun _ x => x.rowIs (w.heap.size + 1 + 1) 24 4 (u64s (limb R))) v4 x := hT 4 _ _ rfl
        clear hl hT
        simp only [zipo, fill, List.foldl, Act.put, List.setIfInBounds_toArray, List.set_cons_zero, List.set_cons_succ]
        obtain ⟨q0, q1, q2, q3⟩ := row_cells4 h3
        obtain ⟨r0, r1, r2, r3⟩ := row_cells4 h4
        subst h0 h1 h2
        go_wp2
        exact bodyPost_ret (v := .tuple #[wv q, wv R]) (by simp [results, Try.results51, go_sem, q0, q1, q2, q3, r0, r1, r2, r3]) rfl ⟨q, R, HQ, HR0, rfl, hs.be⟩
    · obtain ⟨m, rfl⟩ : ∃ m, i = m + 1 := ⟨i - 1, by omega⟩
      rw [show (((m + 1 : Nat) : Int) - 1) = (m : Int) by omega]
      have cl := hs.rl.cell (i := m) (by omega)
      simp only [bools] at cl
      have HB : Hid (R < b) := by show _ < _; rw [HR.out]; exact Nat.mod_lt _ hb1.out
      obtain ⟨g0, g1, g2, g3⟩ := row_cells4 hrr
      have fz := hrr.frozen
      have HV := div_bit n b m hb1.out
      rw [← HR.out] at HV
      obtain ⟨hv, HH⟩ : ∃ h, Hid (h = decide (M ≤ 2 * R)) := ⟨_, rfl⟩
      have HG : Hid ((IntKind.u64.wrap ((limb R 3).tdiv 9223372036854775808) == 1) = hv) := (high_num R (Nat.lt_trans HB.out hb0.out)).trans HH.out.symm
      obtain ⟨t, Ht⟩ : ∃ t : Nat, Hid (t = if n.testBit m then 1 else 0) := ⟨(if n.testBit m then 1 else 0), rfl⟩
      obtain ⟨D, HD⟩ : ∃ D, Hid (D = 2 * R + t) := ⟨_, rfl⟩
      rw [← Ht.out, ← HD.out] at HV
      have HW : Hid ((n / b).testBit m = decide (b ≤ D) ∧ n / 2 ^ m % b = (if b ≤ D then D - b else D) ∧ D < 2 * b) := HV
      have HN : Hid ((hv || !ltw D b) = decide (b ≤ D) ∧ (b ≤ D → fsub (D % M) (b % M) = D - b) ∧ (¬ b ≤ D → D % M = D)) := by
        have h := dv_num (R := R) (b := b) (D := D) (t := t) HB.out hb0.out (by rw [Ht.out]; split <;> omega) HD.out
        rw [← HH.out] at h
        exact h
      clear HV
      go_upto_if 56 with fail
      go_cut [9] (fun t9 wx => t9 = .bool hv ∧ DV w n b p L wx ∧ wx.rowIs (w.heap.size + 1 + 1 + 1) 4 L (bools fun j => if m + 1 ≤ j then (n / b).testBit j else false) ∧ wx.rowIs (w.heap.size + 1 + 1 + 1 + 1) 24 4 (u64s (limb D)))
      case first =>
        as_aux_lemma =>
        cases hc : n.testBit m
        · rw [hc] at cl Ht
          have HD2 : Hid (D = 2 * R) := HD.out.trans (by rw [Ht.out]; rfl)
          clear hc
          go_wp2_with fail
          go_meet
          case rel =>
            exact ⟨congrArg Value.bool HG.out, (((hs.set (by simp) _).set (by simp) _).set (by simp) _).set (by simp) _, (((hro.setOther (by simp) _).setOther (by simp) _).setOther (by simp) _).setOther (by simp) _, row_dbl hrr HD2.out⟩
        · rw [hc] at cl Ht
          have HD2 : Hid (D = 2 * R + 1) := HD.out.trans (by rw [Ht.out]; rfl)
          clear hc
          go_wp2_with fail
          go_meet
          case rel =>
            exact ⟨congrArg Value.bool HG.out, ((((hs.set (by simp) _).set (by simp) _).set (by simp) _).set (by simp) _).set (by simp) _, ((((hro.setOther (by simp) _).setOther (by simp) _).setOther (by simp) _).setOther (by simp) _).setOther (by simp) _, row_inc hrr HD2.out⟩
      case rest =>
        as_aux_lemma =>
        clear hs hro hrr cl fz HG HH g0 g1 g2 g3
        obtain ⟨rfl, hs, hro, hrr⟩ := hcut
        obtain ⟨g0, g1, g2, g3⟩ := row_cells4 hrr
        obtain ⟨b0, b1, b2, b3⟩ := row_cells4 hs.rb
        go_wp2_with fail
        refine (rless_any D b _).mono ?_
        rintro e w1 ⟨rfl, hb⟩
        replace hs := hs.call hb
        replace hro := row_below hro hb
        replace hrr := row_below hrr hb
        clear g0 g1 g2 g3 b0 b1 b2 b3 hb
        obtain ⟨g0, g1, g2, g3⟩ := row_cells4 hrr
        obtain ⟨b0, b1, b2, b3⟩ := row_cells4 hs.rb
        have fo := hro.frozen m
        have co := hro.cell (i := m) (by omega)
        obtain ⟨lt, HLT⟩ : ∃ l, Hid (l = ltw D b) := ⟨_, rfl⟩
        rw [← HLT.out] at HN ⊢
        have hrow : ∀ W : World, W.rowIs (w.heap.size + 1 + 1 + 1) 4 L (bools fun j => if m + 1 ≤ j then (n / b).testBit j else false) → b ≤ D → (W.setCell ⟨w.heap.size + 1 + 1 + 1, m, none⟩ (.bool true)).rowIs (w.heap.size + 1 + 1 + 1) 4 L (bools fun j => if m ≤ j then (n / b).testBit j else false) := fun W hW hbD => rowb_down hW (by rw [HW.out.1, decide_eq_true hbD])
        have HROW : Hid (∀ W : World, W.rowIs (w.heap.size + 1 + 1 + 1) 4 L (bools fun j => if m + 1 ≤ j then (n / b).testBit j else false) → b ≤ D → (W.setCell ⟨w.heap.size + 1 + 1 + 1, m, none⟩ (.bool true)).rowIs (w.heap.size + 1 + 1 + 1) 4 L (bools fun j => if m ≤ j then (n / b).testBit j else false)) := hrow
        clear hrow
        have hsub : (hv = true ∨ lt = false) → b ≤ D := fun h => by
          have h1 := HN.out.1
          rcases h with rfl | rfl
          · exact of_decide_eq_true (h1.symm.trans (by simp))
          · exact of_decide_eq_true (h1.symm.trans (by simp))
        have hnot : hv = false → lt = true → ¬ b ≤ D := fun h h2 => by
          have h1 := HN.out.1
          subst h h2
          exact of_decide_eq_false (h1.symm.trans (by simp))
        have HSUB : Hid ((hv = true ∨ lt = false) → b ≤ D) := hsub
        have HNOT : Hid (hv = false → lt = true → ¬ b ≤ D) := hnot
        clear hsub hnot
        cases hv <;> cases lt
        · as_aux_lemma =>
          have HBD : Hid (b ≤ D) := HSUB.out (Or.inr rfl)
          go_wp2_with fail
          refine (rsub_any D b _).mono ?_
          rintro e w2 ⟨s, HS, rfl, hb⟩
          replace hs := hs.call hb
          replace hro := row_below hro hb
          replace hrr := row_below hrr hb
          clear g0 g1 g2 g3 b0 b1 b2 b3 fo co hb
          obtain ⟨g0, g1, g2, g3⟩ := row_cells4 hrr
          have fz := hrr.frozen
          have fo := hro.frozen m
          have co := hro.cell (i := m) (by omega)
          go_wp2
          go_roundw
          case rel =>
            refine ⟨m, s, by omega, rfl, (((((hs.set (by simp) _).set (by simp) _).set (by simp) _).set (by simp) _)).set (by simp) _, HROW.out _ ((((hro.setOther (by simp) _).setOther (by simp) _).setOther (by simp) _).setOther (by simp) _) HBD.out, (row_put4 hrr (limb s) rfl rfl rfl rfl).setOther (by simp) _, ?_⟩
            show _ = _
            rw [HS.out, HN.out.2.1 HBD.out, HW.out.2.1, if_pos HBD.out]
          case measure => simp [intOf]
        · as_aux_lemma =>
          have HBD : Hid (¬ b ≤ D) := HNOT.out rfl rfl
          go_wp2
          go_roundw
          case rel =>
            refine ⟨m, D, by omega, rfl, hs, hro.congr fun j hj => ?_, hrr, ?_⟩
            · simp only [bools]
              by_cases h : m + 1 ≤ j
              · rw [if_pos h, if_pos (by omega)]
              · rw [if_neg h]
                by_cases h2 : m ≤ j
                · obtain rfl : j = m := by omega
                  rw [if_pos h2, HW.out.1, decide_eq_false HBD.out]
                · rw [if_neg h2]
            · show _ = _
              rw [HW.out.2.1, if_neg HBD.out]
          case measure => simp [intOf]
        · as_aux_lemma =>
          have HBD : Hid (b ≤ D) := HSUB.out (Or.inl rfl)
          go_wp2_with fail
          refine (rsub_any D b _).mono ?_
          rintro e w2 ⟨s, HS, rfl, hb⟩
          replace hs := hs.call hb
          replace hro := row_below hro hb
          replace hrr := row_below hrr hb
          clear g0 g1 g2 g3 b0 b1 b2 b3 fo co hb
          obtain ⟨g0, g1, g2, g3⟩ := row_cells4 hrr
          have fz := hrr.frozen
          have fo := hro.frozen m
          have co := hro.cell (i := m) (by omega)
          go_wp2
          go_roundw
          case rel =>
            refine ⟨m, s, by omega, rfl, (((((hs.set (by simp) _).set (by simp) _).set (by simp) _).set (by simp) _)).set (by simp) _, HROW.out _ ((((hro.setOther (by simp) _).setOther (by simp) _).setOther (by simp) _).setOther (by simp) _) HBD.out, (row_put4 hrr (limb s) rfl rfl rfl rfl).setOther (by simp) _, ?_⟩
            show _ = _
            rw [HS.out, HN.out.2.1 HBD.out, HW.out.2.1, if_pos HBD.out]
          case measure => simp [intOf]
        · as_aux_lemma =>
          have HBD : Hid (b ≤ D) := HSUB.out (Or.inl rfl)
          go_wp2_with fail
          refine (rsub_any D b _).mono ?_
          rintro e w2 ⟨s, HS, rfl, hb⟩
          replace hs := hs.call hb
          replace hro := row_below hro hb
          replace hrr := row_below hrr hb
          clear g0 g1 g2 g3 b0 b1 b2 b3 fo co hb
          obtain ⟨g0, g1, g2, g3⟩ := row_cells4 hrr
          have fz := hrr.frozen
          have fo := hro.frozen m
          have co := hro.cell (i := m) (by omega)
          go_wp2
          go_roundw
          case rel =>
            refine ⟨m, s, by omega, rfl, (((((hs.set (by simp) _).set (by simp) _).set (by simp) _).set (by simp) _)).set (by simp) _, HROW.out _ ((((hro.setOther (by simp) _).setOther (by simp) _).setOther (by simp) _).setOther (by simp) _) HBD.out, (row_put4 hrr (limb s) rfl rfl rfl rfl).setOther (by simp) _, ?_⟩
            show _ = _
            rw [HS.out, HN.out.2.1 HBD.out, HW.out.2.1, if_pos HBD.out]
          case measure => simp [intOf]
end cin
end Go.Proofs.Ytohoajjdoihekaa
