/-
  All items of a text, the program's way.
-/
import Derived.Test.YtohoajjdoihekaaDoorTz
import Derived.Test.YtohoajjdoihekaaDoorTzb
set_option linter.unusedVariables false
set_option linter.unusedSimpArgs false
namespace Go.Proofs.YtohoajjdoihekaaDoor
open Go.RowKit Go.Lib
namespace cin
/-- an item with the slice of its bytes -/
def cells6 (l : List (Ri × Value)) : List Value := l.flatMap fun y => [.int .i64 (y.1.i.k : Int), .string y.1.i.nm, y.2, .int .i64 (y.1.i.fl : Int), .int .i64 (y.1.a : Int), .int .i64 (y.1.p : Int)]
theorem cells6_snoc (l : List (Ri × Value)) (y : Ri) (v : Value) : cells6 (l ++ [(y, v)]) = cells6 l ++ [.int .i64 (y.i.k : Int), .string y.i.nm, v, .int .i64 (y.i.fl : Int), .int .i64 (y.a : Int), .int .i64 (y.p : Int)] := by
  unfold cells6
  rw [List.flatMap_append]
  rfl
theorem cells6_at (l : List (Ri × Value)) (i : Nat) (h : i < l.length) : (cells6 l)[i * 6]? = some (.int .i64 ((l[i]).1.i.k : Int)) ∧ (cells6 l)[i * 6 + 1]? = some (.string (l[i]).1.i.nm) ∧ (cells6 l)[i * 6 + 2]? = some (l[i]).2 ∧ (cells6 l)[i * 6 + 3]? = some (.int .i64 ((l[i]).1.i.fl : Int)) ∧ (cells6 l)[i * 6 + 4]? = some (.int .i64 ((l[i]).1.a : Int)) ∧ (cells6 l)[i * 6 + 5]? = some (.int .i64 ((l[i]).1.p : Int)) := by
  induction l generalizing i with
  | nil => exact absurd h (Nat.not_lt_zero _)
  | cons x r ih =>
    have e : cells6 (x :: r) = .int .i64 (x.1.i.k : Int) :: .string x.1.i.nm :: x.2 :: .int .i64 (x.1.i.fl : Int) :: .int .i64 (x.1.a : Int) :: .int .i64 (x.1.p : Int) :: cells6 r := by unfold cells6; rw [List.flatMap_cons]; rfl
    rw [e]
    cases i with
    | zero => exact ⟨rfl, rfl, rfl, rfl, rfl, rfl⟩
    | succ i =>
      have h2 := ih i (by simpa using h)
      rw [show (i + 1) * 6 = i * 6 + 6 by omega]
      exact h2
def two (a b : Value) : Nat → Value := fun i => if i = 0 then a else b
theorem row_lit2 {w : World} {n : Nat} {t : TypeId} (a b : Value) (hn : n = w.heap.size) : (w.alloc (.cells #[a, b] t)).rowIs n t 2 (two a b) := by
  subst hn
  refine World.rowIs_alloc w _ t _ fun i hi => ?_
  rcases (by simp at hi; omega : i = 0 ∨ i = 1) with rfl | rfl <;> rfl
/-- the items read so far -/
structure IR (base : Nat) (acc : List (Ri × Value)) (t : Value) (x : World) : Prop where
  ow : x.ownsRow base 35 6 t acc.length (cells6 acc)
  cd : ∀ y ∈ acc, Bys x base y.2 y.1.i.cd
theorem IR.call {base : Nat} {acc : List (Ri × Value)} {t : Value} {x y : World} (h : IR base acc t x) (hb : Below x.heap.size x y) : IR base acc t y :=
  ⟨ownsRow_below h.ow hb, fun z hz => ownsRow_below (h.cd z hz) hb⟩
theorem own_sl {w : World} {b e size n : Nat} {v : Value} {xs : List Value} (h : w.ownsRow b e size v n xs) : ∃ (ad : Option Addr) (cp : Nat), v = .slice ad n cp := by
  rcases h.2 with ⟨hv, h0⟩ | ⟨g, cap, cur, hv, _⟩
  · subst h0; exact ⟨_, _, hv⟩
  · exact ⟨_, _, hv⟩
theorem own_ne {w : World} {b e size n b' e' size' n' : Nat} {v v' : Value} {xs xs' : List Value} (h : w.ownsRow b e size v n xs) (h' : w.ownsRow b' e' size' v' n' xs') (hne : e ≠ e') : v.ownBlock = none ∨ v.ownBlock ≠ v'.ownBlock := by
  rcases h.2 with ⟨rfl, _⟩ | ⟨g, cap, cur, rfl, _, h1, _⟩
  · exact Or.inl rfl
  · rcases h'.2 with ⟨rfl, _⟩ | ⟨g', cap', cur', rfl, _, h1', _⟩
    · exact Or.inr (by simp [Value.ownBlock])
    · refine Or.inr fun e1 => hne ?_
      have e2 : g = g' := by simpa [Value.ownBlock] using e1
      subst e2
      rw [h1] at h1'
      injection h1' with h2
      injection h2
theorem IR.grow {base : Nat} {acc : List (Ri × Value)} {t t' : Value} {x z : World} {y : Ri} {v : Value} (h : IR base acc t x) (hg : x.grownBy z t.ownBlock) (hv : Bys x base v y.i.cd)
    (ho : z.ownsRow base 35 6 t' (acc.length + 1) (cells6 acc ++ [.int .i64 (y.i.k : Int), .string y.i.nm, v, .int .i64 (y.i.fl : Int), .int .i64 (y.a : Int), .int .i64 (y.p : Int)])) : IR base (acc ++ [(y, v)]) t' z := by
  refine ⟨by rw [cells6_snoc, List.length_append]; exact ho, fun q hq => ?_⟩
  rcases List.mem_append.1 hq with hq | hq
  · exact World.ownsRow.kept (h.cd q hq) hg (own_ne (h.cd q hq) h.ow (by decide))
  · have e : q = (y, v) := List.mem_singleton.1 hq
    subst e
    exact World.ownsRow.kept hv hg (own_ne hv h.ow (by decide))
theorem rit_step {acc : List (Ri × Value)} {L : List (ByteArray × Nat)} {j pl : Nat} {R : List Ri} {x : ByteArray × Nat} {it : It} (v : Value) (hj : j < L.length) (hx : x = L[j]) (hi : it = itm x.1) (h : acc.map Prod.fst ++ rit (L.drop j) pl = R) :
    (acc ++ [((⟨it, x.2, pl⟩ : Ri), v)]).map Prod.fst ++ rit (L.drop (j + 1)) (pl + it.cd.length) = R := by
  rw [List.drop_eq_getElem_cons hj, ← hx, rit, ← hi] at h
  rw [List.map_append, List.append_assoc]
  exact h
theorem info_it : (Tryd.prog.info? 35).map (fun i => (i.zero, i.size, i.bytes)) = some (some (.agg #[.int .i64 0, .string ⟨#[]⟩, .slice none 0 0, .int .i64 0, .int .i64 0, .int .i64 0]), 6, 72) := by kernel_rfl
def ItemsRead (s : ByteArray) (w : World) (e : Ending) (w' : World) : Prop := ∃ (v : Value) (l : List (Ri × Value)), e = .returned v ∧ IR w.heap.size l v w' ∧ l.map Prod.fst = rlist s ∧ Below w.heap.size w w'
set_option maxRecDepth 100000 in
set_option maxHeartbeats 8000000 in
theorem readItems_any (s : ByteArray) (hs : s.size ≤ 2000) (hv : Hid (Whole s)) (w : World) : Calls Tryd.prog 7 #[.string s] w fun e w' => ItemsRead s w e w' := by
  obtain ⟨i0, hi0, hz0, hz1, hz2⟩ := info_parts info_it
  have HI := hid_of (And.intro hi0 (And.intro hz0 (And.intro hz1 hz2)))
  clear hi0 hz0 hz1 hz2
  have HSP := hid_of (split_any s hs hv)
  have HL : Hid ((spl s).length ≤ 2001) := Nat.le_trans (spl_len s) (by omega)
  have HFT := hid_of (spl_fit hv.out)
  have HRL : Hid (rlist s = rit (spl s) 0) := rfl
  go_enter Tryd.func7, Tryd.ntmps7
  go_wp2_with fail
  refine (HSP.out _).mono ?_
  rintro e w1 ⟨v, rfl, hps, hbe1⟩
  obtain ⟨L, HLL⟩ : ∃ L, Hid (L = spl s) := ⟨_, rfl⟩
  rw [← HLL.out] at hps HL HFT HRL
  clear HSP HLL
  have HB1 := hid_of hbe1
  have HPS := hid_of hps
  have hL := HL.out
  rcases hps.2 with ⟨rfl, hn⟩ | ⟨g, cap, cur, rfl, _⟩
  · have HE : Hid (([] : List (Ri × Value)).map Prod.fst = rlist s) := by show _ = _; rw [HRL.out, List.length_eq_zero_iff.1 hn]; rfl
    clear hps hbe1
    go_wp2
    go_loopw [3, 4, 11] (fun t3 t4 t11 wr => t3 = .slice none 0 0 ∧ t11 = .int .i64 0 ∧ Hid (wr = w1)) (fun _ _ _ _ => 0)
    case atStart => exact ⟨rfl, rfl, rfl⟩
    case round =>
      obtain ⟨rfl, rfl, HW⟩ := hrel
      go_wp2
      go_ret
      exact ⟨_, [], rfl, ⟨World.ownsRow_nil _ _ _ _, fun y hy => by cases hy⟩, HE.out, by rw [HW.out]; exact HB1.out⟩
  · clear hps hbe1
    go_wp2
    go_loopw [3, 4, 11] (fun t3 t4 t11 wr => ∃ (j pl : Nat) (acc : List (Ri × Value)), t11 = .int .i64 (j : Int) ∧ t4 = .int .i64 (pl : Int) ∧ IR w1.heap.size acc t3 wr ∧ Below w1.heap.size w1 wr ∧ acc.length = j ∧ j ≤ L.length ∧ pl ≤ 33 * j ∧ Hid (acc.map Prod.fst ++ rit (L.drop j) pl = rlist s)) (fun _ _ t11 _ => L.length - (intOf t11).toNat)
    case atStart => exact ⟨0, 0, [], rfl, rfl, ⟨World.ownsRow_nil _ _ _ _, fun y hy => by cases hy⟩, Below.refl _ _, rfl, by omega, by omega, HRL.out.symm⟩
    case round =>
      obtain ⟨j, pl, acc, rfl, rfl, hir, hbe, hac, hj, hpl, HR⟩ := hrel
      by_cases hlt : j < L.length
      · have hps2 := ownsRow_below HPS.out hbe
        have hc1 := (hps2.cellAt (j * 2) (by omega)).trans (cells2_at L j hlt).1
        have hc2 := (hps2.cellAt (j * 2 + 1) (by omega)).trans (cells2_at L j hlt).2
        obtain ⟨f1, f2, f3, f4⟩ := HFT.out (L[j]) (List.getElem_mem hlt)
        have HRI := hid_of (readItem_any (L[j]).1 (Nat.le_trans f3 hs) f1 f2)
        obtain ⟨x, HX⟩ : ∃ x : ByteArray × Nat, Hid (x = L[j]) := ⟨L[j], hid_of rfl⟩
        rw [← HX.out] at hc1 hc2 HRI
        clear hps2 f1 f2 f3 f4
        have HIR := hid_of hir
        have HBE := hid_of hbe
        clear hir hbe
        go_wp2_with fail
        refine (HRI.out _).mono ?_
        rintro e w2 ⟨vc, rfl, hby, hb2⟩
        obtain ⟨it, HIT⟩ : ∃ it, Hid (it = itm x.1) := ⟨_, rfl⟩
        rw [← HIT.out] at hby ⊢
        have hcdl : it.cd.length ≤ 33 := by rw [HIT.out]; exact itm_len _
        have hat : (w2.alloc (.cells #[.int .i64 (it.k : Int), .string it.nm, vc, .int .i64 (it.fl : Int), .int .i64 0, .int .i64 0] 35)).cell? ⟨wr.heap.size, 1, none⟩ = some (.int .i64 (x.2 : Int)) := by
          have hr : (wr.alloc (.cells #[.string x.1, .int .i64 (x.2 : Int)] 52)).rowIs wr.heap.size 52 2 (two (.string x.1) (.int .i64 (x.2 : Int))) := row_lit2 _ _ rfl
          exact ((row_below hr hb2).alloc _).cell (i := 1) (by omega)
        have HB2 := hid_of hb2
        have HBY := hid_of hby
        obtain ⟨ad, cp, hsh⟩ := own_sl hby
        subst hsh
        clear hb2 hby
        unfold itV
        go_upto_region 9 with fail
        obtain ⟨w3, HW3⟩ : ∃ w3, Hid (w3 = w2.alloc (.cells #[.int .i64 (it.k : Int), .string it.nm, .slice ad it.cd.length cp, .int .i64 (it.fl : Int), .int .i64 (x.2 : Int), .int .i64 (pl : Int)] 35)) := ⟨_, rfl⟩
        have hbx : Below wr.heap.size wr w3 := by rw [HW3.out]; exact bal (bcall (bal (Below.refl _ _) _) HB2.out) _
        have HIR3 := hid_of (HIR.out.call hbx)
        have HBE3 := hid_of (bcall HBE.out hbx)
        have hrow : w3.rowIs w2.heap.size 35 6 (six (.int .i64 (it.k : Int)) (.string it.nm) (.slice ad it.cd.length cp) (.int .i64 (it.fl : Int)) (.int .i64 (x.2 : Int)) (.int .i64 (pl : Int))) := by rw [HW3.out]; exact row_lit6 _ _ _ _ _ _ rfl
        have HBY3 : Hid (Bys w3 w1.heap.size (.slice ad it.cd.length cp) it.cd) := by show Bys _ _ _ _; rw [HW3.out]; exact (HBY.out.alloc _).mono (by have := HBE.out.size; simp; omega)
        have HLT : Hid (w2.heap.size < w3.heap.size ∧ wr.heap.size ≤ w2.heap.size) := ⟨hrow.lt, by have := HB2.out.size; simp at this; omega⟩
        have HOB : Hid (∀ k, u3.ownBlock = some k → k < wr.heap.size) := fun k hk => (HIR.out.ow.lt k hk).2
        rw [← HW3.out]
        obtain ⟨c0, c1, c2, c3, c4, c5⟩ := row_cells6 hrow
        have HROW := hid_of hrow
        clear hrow HW3 hat HBE HB2 HBY HIR hbx
        go_wp2_with (at_builtin; obtain ⟨hi0, hz0, hz1, hz2⟩ := HI.out; refine wpList_append_own _ rfl _ _ 28 rfl w1.heap.size 35 i0 (.agg #[.int .i64 0, .string ⟨#[]⟩, .slice none 0 0, .int .i64 0, .int .i64 0, .int .i64 0]) 6 72 (by kernel_rfl) hi0 hz0 hz1 hz2 rfl (by decide) _ _ _ rfl (HIR3.out.ow.alloc _) _ 1 1 [.int .i64 (it.k : Int), .string it.nm, .slice ad it.cd.length cp, .int .i64 (it.fl : Int), .int .i64 (x.2 : Int), .int .i64 (pl : Int)] rfl rfl (lit_cells _ #[.int .i64 (it.k : Int), .string it.nm, .slice ad it.cd.length cp, .int .i64 (it.fl : Int), .int .i64 (x.2 : Int), .int .i64 (pl : Int)] 35) (by intro u hu; simp at hu; rcases hu with rfl | rfl | rfl | rfl | rfl | rfl <;> rfl) (by unfold maxLen; omega) (by omega) (by have := HBE3.out.size; simp; omega) ?_; intro v' w4 ho3 hgr _; obtain ⟨g', cap', rfl, hg1', hg2', hg3'⟩ := own_shape ho3 (by omega); have hro2 := (HROW.out.alloc (.cells #[.int .i64 (it.k : Int), .string it.nm, .slice ad it.cd.length cp, .int .i64 (it.fl : Int), .int .i64 (x.2 : Int), .int .i64 (pl : Int)] 35)).of_block (hgr.block w2.heap.size (by have := HLT.out.1; simp; omega) (fun e => by have := HOB.out _ e.symm; have := HLT.out.2; omega)); obtain ⟨q0, q1, q2, q3, q4, q5⟩ := row_cells6 hro2; have HGR := hid_of hgr; have HO3 := hid_of ho3; clear hgr ho3 hi0 hz0 hz1 hz2 hg1' hg2' hg3' hro2 c0 c1 c2 c3 c4 c5)
        go_roundw
        case rel => exact ⟨j + 1, pl + it.cd.length, acc ++ [((⟨it, x.2, pl⟩ : Ri), .slice ad it.cd.length cp)], by go_num, by go_num, (by have h := IR.grow (y := ⟨it, x.2, pl⟩) (HIR3.out.call (bal (Below.refl _ _) _)) HGR.out (HBY3.out.alloc _) HO3.out; rw [hac] at h; exact h), (bal HBE3.out _).grown HGR.out (by have := HBE3.out.size; simp; omega) (own_low0 HIR3.out.ow), by rw [List.length_append]; show _ + 1 = _; omega, by omega, by omega, rit_step _ hlt HX.out HIT.out HR.out⟩
        case measure => simp [intOf]; omega
      · have HE : Hid (acc.map Prod.fst = rlist s) := by show _ = _; rw [← HR.out, List.drop_of_length_le (by omega), rit, List.append_nil]
        obtain ⟨ad, cp, hsh⟩ := own_sl hir.ow
        subst hsh
        go_wp2
        go_ret
        exact ⟨_, acc, rfl, ⟨own_mono hir.ow HB1.out.size, fun y hy => (hir.cd y hy).mono HB1.out.size⟩, HE.out, bcall HB1.out hbe⟩
end cin
end Go.Proofs.YtohoajjdoihekaaDoor
