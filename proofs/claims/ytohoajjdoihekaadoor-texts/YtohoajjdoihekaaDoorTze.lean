/-
  labelPlaces: the labels of a text.
-/
import Derived.Test.YtohoajjdoihekaaDoorTzc
import Derived.Maps.OwnSet
import Derived.Maps.OwnOps
import Derived.Maps.Views
set_option linter.unusedVariables false
set_option linter.unusedSimpArgs false
/-
  The labels of a text, the program's way.
-/
namespace Go.Proofs.YtohoajjdoihekaaDoor
open Go.RowKit Go.Lib Go.Maps Go.WideMaps
namespace cin
theorem und_s : Tryd.prog.underlying 9 = some .string := by kernel_rfl
theorem und_i : Tryd.prog.underlying 3 = some (.int .i64) := by kernel_rfl
theorem und_m : Tryd.prog.underlying 30 = some (.map 9 3) := by kernel_rfl
theorem lawS : Keyed Tryd.prog 9 := string_keyed und_s
theorem zeroI (w : World) : (zeroValue 3).run Tryd.prog w = .ok (.int .i64 0) w := by kernel_rfl
def kS (t : ByteArray) : Lit := .string t.data.toList
theorem kS_inj {a b : ByteArray} (h : kS a = kS b) : a = b := bl_inj (by unfold kS at h; injection h)
theorem keyS (t : ByteArray) (h : t.size ≤ 2000) : keyOf Tryd.prog 9 (.string t) = some (kS t) := keyOf_string_mk und_s (by unfold maxLen; omega)
/-- a map from names to places -/
def MapL (x : World) (b n : Nat) (f : ByteArray → Option Nat) : Prop := ∃ D : DataW Unit, x.ownsMap Tryd.prog 9 (plainElem Tryd.prog 3) b n D ∧
  ∀ t : ByteArray, Maps.has D (kS t) = (f t).isSome ∧ D.atKey (kS t) (.lit (.int .i64 0)) = .lit (.int .i64 (((f t).getD 0 : Nat) : Int))
theorem MapL.made (w : World) : MapL (w.alloc (.map #[] 0)) w.heap.size 0 (fun _ => none) := ⟨.map [], World.ownsMap_made _ _ _ _, fun t => ⟨rfl, rfl⟩⟩
theorem MapL.below {x y : World} {b n : Nat} {f : ByteArray → Option Nat} (h : MapL x b n f) (hb : Below x.heap.size x y) : MapL y b n f := by
  obtain ⟨D, h1, h2⟩ := h
  have hlt := h1.lt
  obtain ⟨es, clock, hbk, F, hs, hD⟩ := h1
  exact ⟨D, ⟨es, clock, (hb.block b hlt).trans hbk, F, hs, hD⟩, h2⟩
theorem MapL.grown {x y : World} {b n : Nat} {f : ByteArray → Option Nat} {r : Option Nat} (h : MapL x b n f) (hb : x.grownBy y r) (hr : some b ≠ r) : MapL y b n f := by
  obtain ⟨D, h1, h2⟩ := h
  exact ⟨D, h1.kept hb hr, h2⟩
theorem MapL.congr {x : World} {b n : Nat} {f g : ByteArray → Option Nat} (h : MapL x b n f) (e : ∀ t, f t = g t) : MapL x b n g := by
  obtain ⟨D, h1, h2⟩ := h
  exact ⟨D, h1, fun t => by rw [← e]; exact h2 t⟩
theorem MapL.mono {x : World} {b n m : Nat} {f : ByteArray → Option Nat} (h : MapL x b n f) (hn : n ≤ m) : MapL x b m f := by
  obtain ⟨D, h1, h2⟩ := h
  exact ⟨D, h1.mono hn, h2⟩
theorem MapL.look2 {x : World} {b n : Nat} {f : ByteArray → Option Nat} (h : MapL x b n f) (t : ByteArray) (ht : t.size ≤ 2000) :
    (Instr.lookup 30 (.map (some b)) (.string t) true).run Tryd.prog x = .ok (.tuple #[.int .i64 (((f t).getD 0 : Nat) : Int), .bool (f t).isSome]) x := by
  obtain ⟨D, h1, h2⟩ := h
  obtain ⟨v, ps, hrun, hv⟩ := h1.look_ok (t := 30) (e := 3) lawS und_m (zeroI _) (plainElem_int (q := .i64) und_i (by decide)) (keyS t ht)
  obtain ⟨c, rfl, hc, _⟩ := plainElem_int_inv (q := .i64) und_i hv
  rw [(h2 t).2] at hc
  have h5 := (Lit.int.inj (DataW.lit.inj (Prod.mk.inj hc).1)).2
  rw [← h5, (h2 t).1] at hrun
  exact hrun
theorem MapL.look1 {x : World} {b n : Nat} {f : ByteArray → Option Nat} (h : MapL x b n f) (t : ByteArray) (ht : t.size ≤ 2000) :
    (Instr.lookup 30 (.map (some b)) (.string t) false).run Tryd.prog x = .ok (.int .i64 (((f t).getD 0 : Nat) : Int)) x := by
  obtain ⟨D, h1, h2⟩ := h
  obtain ⟨c, hrun, hc, _⟩ := h1.lookup_int (t := 30) (e := 3) (q := .i64) lawS und_m und_i (zeroI _) (keyS t ht)
  rw [(h2 t).2] at hc
  have h5 := (Lit.int.inj (DataW.lit.inj hc)).2
  rw [← h5] at hrun
  exact hrun
theorem MapL.put {x : World} {b n : Nat} {f : ByteArray → Option Nat} {D : DataW Unit} (h1 : IsMap D) (h2 : ∀ t : ByteArray, Maps.has D (kS t) = (f t).isSome ∧ D.atKey (kS t) (.lit (.int .i64 0)) = .lit (.int .i64 (((f t).getD 0 : Nat) : Int)))
    (t : ByteArray) (p : Nat) (ho : x.ownsMap Tryd.prog 9 (plainElem Tryd.prog 3) b (n + 1) (D.put (kS t) (.lit (.int .i64 (p : Int))))) : MapL x b (n + 1) (fun u => if u = t then some p else f u) := by
  refine ⟨_, ho, fun u => ?_⟩
  show has _ (kS u) = (if u = t then some p else f u).isSome ∧ DataW.atKey _ (kS u) _ = .lit (.int .i64 (((if u = t then some p else f u).getD 0 : Nat) : Int))
  by_cases e : u = t
  · subst e
    rw [if_pos rfl]
    exact ⟨has_put_same h1 (k := kS u) (show WideAt.IsKeyLit (kS u) from trivial) _, atKey_put_same h1 (k := kS u) (show WideAt.IsKeyLit (kS u) from trivial) _ _⟩
  · have hne : kS u ≠ kS t := fun h => e (kS_inj h)
    rw [if_neg e, has_put_other hne, atKey_put_other hne]
    exact h2 u
theorem lkp_snoc (t : ByteArray) (l : List Ri) (y : Ri) : lkp t (l ++ [y]) = if (lkp t l).isSome then lkp t l else if y.i.k = 1 ∧ y.i.nm = t then some y.p else none := by
  induction l with
  | nil => rfl
  | cons x r ih =>
    show (if x.i.k = 1 ∧ x.i.nm = t then some x.p else lkp t (r ++ [y])) = _
    rw [lkp]
    by_cases h : x.i.k = 1 ∧ x.i.nm = t
    · rw [if_pos h, if_pos h]; rfl
    · rw [if_neg h, if_neg h, ih]
end cin
end Go.Proofs.YtohoajjdoihekaaDoor

namespace Go.Proofs.YtohoajjdoihekaaDoor
open Go.RowKit Go.Lib Go.Maps
namespace cin
/-- what is known of the items -/
def Okl (l : List (Ri × Value)) : Prop := l.length ≤ 2001 ∧ ∀ y ∈ l, y.1.i.nm.size ≤ 2000 ∧ y.1.p ≤ 100000 ∧ y.1.i.k ≤ 2 ∧ y.1.i.fl ≤ 4 ∧ y.1.i.cd.length ≤ 33 ∧ (y.1.i.k = 2 → y.1.i.cd = [97, 0, 0])
def lkT (l : List (Ri × Value)) (j : Nat) (t : ByteArray) : Option Nat := lkp t ((l.take j).map Prod.fst)
theorem lkT_step {l : List (Ri × Value)} {j : Nat} {y : Ri × Value} (hj : j < l.length) (hy : y = l[j]) (t : ByteArray) : lkT l (j + 1) t = if (lkT l j t).isSome then lkT l j t else if y.1.i.k = 1 ∧ y.1.i.nm = t then some y.1.p else none := by
  unfold lkT
  rw [List.take_succ_eq_append_getElem hj, List.map_append, ← hy]
  exact lkp_snoc t _ y.1
theorem lkT_no {l : List (Ri × Value)} {j : Nat} {y : Ri × Value} (hj : j < l.length) (hy : y = l[j]) (h : y.1.i.k ≠ 1) (t : ByteArray) : lkT l j t = lkT l (j + 1) t := by
  rw [lkT_step hj hy]
  rw [if_neg (fun e => h e.1 : ¬ (y.1.i.k = 1 ∧ y.1.i.nm = t))]
  cases lkT l j t <;> rfl
theorem lkT_there {l : List (Ri × Value)} {j : Nat} {y : Ri × Value} (hj : j < l.length) (hy : y = l[j]) (h : (lkT l j y.1.i.nm).isSome = true) (t : ByteArray) : lkT l j t = lkT l (j + 1) t := by
  rw [lkT_step hj hy]
  by_cases e : y.1.i.nm = t
  · rw [← e, h]; rfl
  · rw [if_neg (fun c => e c.2 : ¬ (y.1.i.k = 1 ∧ y.1.i.nm = t))]
    cases lkT l j t <;> rfl
theorem lkT_new {l : List (Ri × Value)} {j : Nat} {y : Ri × Value} (hj : j < l.length) (hy : y = l[j]) (hk : y.1.i.k = 1) (h : (lkT l j y.1.i.nm).isSome = false) (t : ByteArray) : (if t = y.1.i.nm then some y.1.p else lkT l j t) = lkT l (j + 1) t := by
  rw [lkT_step hj hy]
  by_cases e : t = y.1.i.nm
  · rw [if_pos e, e, h, if_neg (by decide), if_pos ⟨hk, rfl⟩]
  · rw [if_neg e, if_neg (fun c => e c.2.symm : ¬ (y.1.i.k = 1 ∧ y.1.i.nm = t))]
    cases lkT l j t <;> rfl
theorem item_cells {base g cap : Nat} {l : List (Ri × Value)} {x : World} (h : IR base l (.slice (some ⟨g, 0, none⟩) l.length cap) x) {j : Nat} (hj : j < l.length) {y : Ri × Value} (hy : y = l[j]) :
    x.cell? ⟨g, j * 6, none⟩ = some (.int .i64 (y.1.i.k : Int)) ∧ x.cell? ⟨g, j * 6 + 1, none⟩ = some (.string y.1.i.nm) ∧ x.cell? ⟨g, j * 6 + 2, none⟩ = some y.2 ∧ x.cell? ⟨g, j * 6 + 3, none⟩ = some (.int .i64 (y.1.i.fl : Int)) ∧ x.cell? ⟨g, j * 6 + 4, none⟩ = some (.int .i64 (y.1.a : Int)) ∧ x.cell? ⟨g, j * 6 + 5, none⟩ = some (.int .i64 (y.1.p : Int)) := by
  have hc := cells6_at l j hj
  rw [← hy] at hc
  exact ⟨(h.ow.cellAt (j * 6) (by omega)).trans hc.1, (h.ow.cellAt (j * 6 + 1) (by omega)).trans hc.2.1, (h.ow.cellAt (j * 6 + 2) (by omega)).trans hc.2.2.1, (h.ow.cellAt (j * 6 + 3) (by omega)).trans hc.2.2.2.1, (h.ow.cellAt (j * 6 + 4) (by omega)).trans hc.2.2.2.2.1, (h.ow.cellAt (j * 6 + 5) (by omega)).trans hc.2.2.2.2.2⟩
set_option maxRecDepth 100000 in
set_option maxHeartbeats 8000000 in
theorem labelPlaces_any (l : List (Ri × Value)) (base : Nat) (v : Value) (hl : Hid (Okl l)) (w : World) (ho : IR base l v w) : Calls Tryd.prog 8 #[v] w fun e w' => e = .returned (.map (some w.heap.size)) ∧ MapL w' w.heap.size l.length (fun t => lkp t (l.map Prod.fst)) ∧ Below w.heap.size w w' := by
  have hmm := @run_makeMap Tryd.prog
  have hll := hl.out.1
  have HE : Hid (∀ t, lkT l l.length t = lkp t (l.map Prod.fst)) := fun t => by unfold lkT; rw [List.take_length]
  rcases ho.ow.2 with ⟨rfl, hn⟩ | ⟨g, cap, cur, rfl, _⟩
  · have HN : Hid (MapL (w.alloc (.map #[] 0)) w.heap.size l.length (fun t => lkp t (l.map Prod.fst))) := ((MapL.made w).mono (by omega)).congr fun t => by rw [List.length_eq_zero_iff.1 hn]; rfl
    have HBE := hid_of (bal (Below.refl _ w) (.map #[] 0))
    go_enter Tryd.func8, Tryd.ntmps8
    go_wp2
    go_loopw [11] (fun t11 wr => t11 = .int .i64 0 ∧ Hid (wr = w.alloc (.map #[] 0))) (fun _ _ => 0)
    case atStart => exact ⟨rfl, rfl⟩
    case round =>
      obtain ⟨rfl, HW⟩ := hrel
      go_wp2
      go_ret
      exact ⟨rfl, by rw [HW.out]; exact HN.out, by rw [HW.out]; exact HBE.out⟩
  · have HO := hid_of ho
    clear ho
    go_enter Tryd.func8, Tryd.ntmps8
    go_wp2
    go_loopw [11] (fun t11 wr => ∃ j : Nat, t11 = .int .i64 (j : Int) ∧ j ≤ l.length ∧ MapL wr w.heap.size j (lkT l j) ∧ Below w.heap.size w wr) (fun t11 _ => l.length - (intOf t11).toNat)
    case atStart => exact ⟨0, rfl, by omega, MapL.made w, bal (Below.refl _ _) _⟩
    case round =>
      obtain ⟨j, rfl, hj, hml, hbe⟩ := hrel
      by_cases hlt : j < l.length
      · obtain ⟨y, HY⟩ : ∃ y : Ri × Value, Hid (y = l[j]) := ⟨l[j], hid_of rfl⟩
        have hmem : y ∈ l := by rw [HY.out]; exact List.getElem_mem hlt
        have hir := HO.out.call hbe
        obtain ⟨c0, c1, c2, c3, c4, c5⟩ := item_cells hir hlt HY.out
        obtain ⟨ad, cp, hsh⟩ := own_sl (hir.cd y hmem)
        obtain ⟨o1, o2, o3, o4, o5, o6⟩ := hl.out.2 y hmem
        rw [hsh] at c2
        have HML := hid_of hml
        have HBE := hid_of hbe
        have HWF : Hid ((Lit.int .i64 (y.1.p : Int)).wf = true) := WalkArith.wf_i64 (by omega)
        generalize y.1.i.cd.length = cl at *
        by_cases hk : y.1.i.k = 1
        · have hd : ((y.1.i.k : Int) != 1) = false := by rw [hk]; rfl
          have hlk := (hml.below (bal (Below.refl _ wr) (.cells #[.int .i64 (y.1.i.k : Int), .string y.1.i.nm, .slice ad cl cp, .int .i64 (y.1.i.fl : Int), .int .i64 (y.1.a : Int), .int .i64 (y.1.p : Int)] 35))).look2 y.1.i.nm o1
          cases hq : (lkT l j y.1.i.nm).isSome
          · obtain ⟨D, hD1, hD2⟩ := hml.below (bal (Below.refl _ wr) (.cells #[.int .i64 (y.1.i.k : Int), .string y.1.i.nm, .slice ad cl cp, .int .i64 (y.1.i.fl : Int), .int .i64 (y.1.a : Int), .int .i64 (y.1.p : Int)] 35))
            have HD := hid_of (And.intro hD1 hD2)
            have HNEW := hid_of (lkT_new hlt HY.out hk hq)
            rw [hq] at hlk
            clear hD1 hD2 hml hbe hir hsh hq hk
            have hlt2 := HML.out
            go_wp2_with (first | (at_mapUpdate; refine wpList_mapUpdate_own _ rfl _ _ _ 30 rfl 9 3 lawS und_m _ w.heap.size j _ rfl HD.out.1 (by unfold maxLen; omega) _ _ _ rfl rfl (keyS y.1.i.nm o1) _ [] (plainElem_int und_i HWF.out) ?_; intro w4 ho4 hgr; have HO4 := hid_of ho4; have HGR := hid_of hgr; clear ho4 hgr))
            go_roundw
            case rel => exact ⟨j + 1, by go_num, by omega, (MapL.put HD.out.1.isMap HD.out.2 y.1.i.nm y.1.p HO4.out).congr HNEW.out, (bal HBE.out _).grown HGR.out (by have := HBE.out.size; simp; omega) (fun k hk => by cases hk; exact Nat.le_refl _)⟩
            case measure => simp [intOf]; omega
          · have HTH := hid_of (lkT_there hlt HY.out hq)
            rw [hq] at hlk
            clear hml hbe hir hsh hq hk
            go_wp2
            go_roundw
            case rel => exact ⟨j + 1, by go_num, by omega, ((HML.out.below (bal (Below.refl _ _) _)).mono (by omega)).congr HTH.out, bal HBE.out _⟩
            case measure => simp [intOf]; omega
        · have hd : ((y.1.i.k : Int) != 1) = true := by simp; omega
          have HNO := hid_of (lkT_no hlt HY.out hk)
          clear hml hbe hir hsh hk
          go_wp2
          go_roundw
          case rel => exact ⟨j + 1, by go_num, by omega, ((HML.out.below (bal (Below.refl _ _) _)).mono (by omega)).congr HNO.out, bal HBE.out _⟩
          case measure => simp [intOf]; omega
      · have hje : j = l.length := by omega
        subst hje
        go_wp2
        go_ret
        exact ⟨rfl, hml.congr HE.out, hbe⟩
end cin
end Go.Proofs.YtohoajjdoihekaaDoor
