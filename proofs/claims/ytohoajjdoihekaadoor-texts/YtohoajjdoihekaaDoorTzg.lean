/-
  A text into code, plainly: what is known of its items.
-/
import Derived.Test.YtohoajjdoihekaaDoorTze
set_option linter.unusedVariables false
set_option linter.unusedSimpArgs false
/-
  An item among labels: its fault, its bytes.
-/
namespace Go.Proofs.YtohoajjdoihekaaDoor
open Go.RowKit Go.Lib Go.Maps
namespace cin
/-- what is known of one item -/
def Oky (y : Ri) : Prop := y.i.nm.size ≤ 2000 ∧ y.p ≤ 100000 ∧ y.i.k ≤ 2 ∧ y.i.fl ≤ 4 ∧ y.i.cd.length ≤ 33 ∧ (y.i.k = 2 → y.i.cd = [97, 0, 0])
def itY (y : Ri) (v : Value) : Value := .agg #[.int .i64 (y.i.k : Int), .string y.i.nm, v, .int .i64 (y.i.fl : Int), .int .i64 (y.a : Int), .int .i64 (y.p : Int)]
set_option maxRecDepth 100000 in
set_option maxHeartbeats 8000000 in
theorem faultAmong_any (y : Ri) (ad : Option Addr) (cl cp : Nat) (f : ByteArray → Option Nat) (b n : Nat) (hy : Hid (Oky y)) (hs : Hid (y.i.k = 1 → (f y.i.nm).isSome = true)) (w : World) (hm : MapL w b n f) :
    Calls Tryd.prog 9 #[itY y (.slice ad cl cp), .map (some b)] w fun e w' => e = .returned (.int .i64 (flt f y : Int)) ∧ Below w.heap.size w w' := by
  obtain ⟨o1, o2, o3, o4, o5, o6⟩ := hy.out
  have hlk := (hm.below (bal (Below.refl _ w) (.cells #[.int .i64 (y.i.k : Int), .string y.i.nm, .slice ad cl cp, .int .i64 (y.i.fl : Int), .int .i64 (y.a : Int), .int .i64 (y.p : Int)] 35))).look2 y.i.nm o1
  have HBE := hid_of (bal (Below.refl _ w) (.cells #[.int .i64 (y.i.k : Int), .string y.i.nm, .slice ad cl cp, .int .i64 (y.i.fl : Int), .int .i64 (y.a : Int), .int .i64 (y.p : Int)] 35))
  unfold itY
  clear hm o6 o5
  by_cases h1 : y.i.fl = 0
  · have d1 : ((y.i.fl : Int) != 0) = false := by rw [h1]; rfl
    by_cases h2 : y.i.k = 1
    · obtain ⟨q, hq⟩ : ∃ q, f y.i.nm = some q := Option.isSome_iff_exists.1 (hs.out h2)
      rw [hq] at hlk
      by_cases h3 : q = y.p
      · have HR : Hid (flt f y = 0) := by show _ = _; unfold flt; rw [if_neg (by omega), if_neg (by rw [hq, h3]; exact fun h => h.2 rfl), if_neg (by omega)]
        have d2 : ((y.i.k : Int) == 1) = true := by rw [h2]; rfl
        have d3 : ((q : Int) != (y.p : Int)) = false := by simp; omega
        have d4 : ((y.i.k : Int) == 2) = false := by simp; omega
        clear h1 h2 h3 hs hq
        go_enter Tryd.func9, Tryd.ntmps9
        go_wp2
        go_ret
        exact ⟨by rw [HR.out]; rfl, HBE.out⟩
      · have HR : Hid (flt f y = 3) := by show _ = _; unfold flt; rw [if_neg (by omega), if_pos ⟨h2, by rw [hq]; exact fun e => h3 (Option.some.inj e)⟩]
        have d2 : ((y.i.k : Int) == 1) = true := by rw [h2]; rfl
        have d3 : ((q : Int) != (y.p : Int)) = true := by simp; omega
        clear h1 h2 h3 hs hq
        go_enter Tryd.func9, Tryd.ntmps9
        go_wp2
        go_ret
        exact ⟨by rw [HR.out]; rfl, HBE.out⟩
    · have d2 : ((y.i.k : Int) == 1) = false := by simp; omega
      by_cases h4 : y.i.k = 2
      · have d4 : ((y.i.k : Int) == 2) = true := by rw [h4]; rfl
        cases hq : f y.i.nm with
        | none =>
          have HR : Hid (flt f y = 3) := by show _ = _; unfold flt; rw [if_neg (by omega), if_neg (by omega), if_pos ⟨h4, hq⟩]
          rw [hq] at hlk
          clear h1 h2 h4 hs hq
          go_enter Tryd.func9, Tryd.ntmps9
          go_wp2
          go_ret
          exact ⟨by rw [HR.out]; rfl, HBE.out⟩
        | some q =>
          have HR : Hid (flt f y = 0) := by show _ = _; unfold flt; rw [if_neg (by omega), if_neg (by omega), if_neg (by rw [hq]; exact fun h => by cases h.2)]
          rw [hq] at hlk
          clear h1 h2 h4 hs hq
          go_enter Tryd.func9, Tryd.ntmps9
          go_wp2
          go_ret
          exact ⟨by rw [HR.out]; rfl, HBE.out⟩
      · have d4 : ((y.i.k : Int) == 2) = false := by simp; omega
        have HR : Hid (flt f y = 0) := by show _ = _; unfold flt; rw [if_neg (by omega), if_neg (by omega), if_neg (by omega)]
        clear h1 h2 h4 hs
        go_enter Tryd.func9, Tryd.ntmps9
        go_wp2
        go_ret
        exact ⟨by rw [HR.out]; rfl, HBE.out⟩
  · have d1 : ((y.i.fl : Int) != 0) = true := by simp; omega
    have HR : Hid (flt f y = y.i.fl) := by show _ = _; unfold flt; rw [if_pos h1]
    clear h1 hs
    go_enter Tryd.func9, Tryd.ntmps9
    go_wp2
    go_ret
    exact ⟨by rw [HR.out]; rfl, HBE.out⟩
theorem u8v_of {n : Nat} {z : Int} (h : z = ((n % 256 : Nat) : Int)) : u8v (UInt8.ofNat n) = .int .u8 z := by
  subst h
  unfold u8v
  rw [UInt8.toNat_ofNat']
set_option maxRecDepth 100000 in
set_option maxHeartbeats 8000000 in
theorem codeWith_any (y : Ri) (ad : Option Addr) (cl cp : Nat) (f : ByteArray → Option Nat) (b n base : Nat) (hy : Hid (Oky y)) (hf : Hid (∀ q, f y.i.nm = some q → q ≤ 100000)) (w : World) (hm : MapL w b n f) (hb : Bys w base (.slice ad cl cp) y.i.cd) (hba : base ≤ w.heap.size) :
    Calls Tryd.prog 10 #[itY y (.slice ad cl cp), .map (some b)] w fun e w' => ∃ v, e = .returned v ∧ Bys w' base v (cwt f y) ∧ Below w.heap.size w w' := by
  obtain ⟨o1, o2, o3, o4, o5, o6⟩ := hy.out
  have hlk := (hm.below (bal (Below.refl _ w) (.cells #[.int .i64 (y.i.k : Int), .string y.i.nm, .slice ad cl cp, .int .i64 (y.i.fl : Int), .int .i64 (y.a : Int), .int .i64 (y.p : Int)] 35))).look1 y.i.nm o1
  have HBE := hid_of (bal (Below.refl _ w) (.cells #[.int .i64 (y.i.k : Int), .string y.i.nm, .slice ad cl cp, .int .i64 (y.i.fl : Int), .int .i64 (y.a : Int), .int .i64 (y.p : Int)] 35))
  have HBY := hid_of (hb.alloc (.cells #[.int .i64 (y.i.k : Int), .string y.i.nm, .slice ad cl cp, .int .i64 (y.i.fl : Int), .int .i64 (y.a : Int), .int .i64 (y.p : Int)] 35))
  unfold itY
  by_cases h2 : y.i.k = 2
  · have hcd := o6 h2
    have d : ((y.i.k : Int) != 2) = false := by rw [h2]; rfl
    obtain ⟨q, HQ⟩ : ∃ q, Hid (q = (f y.i.nm).getD 0) := ⟨_, rfl⟩
    have hq : q ≤ 100000 := by
      rw [HQ.out]
      cases h : f y.i.nm with
      | none => show 0 ≤ _; omega
      | some r => exact hf.out r h
    have HR : Hid (cwt f y = [97, UInt8.ofNat (q / 256), UInt8.ofNat (q % 256)]) := by show _ = _; unfold cwt; rw [if_pos h2, ← HQ.out]
    rw [← HQ.out] at hlk
    rw [hcd] at HBY
    obtain ⟨g, cap, e1, e2, e3, e4⟩ := own_shape HBY.out (by decide)
    injection e1 with e5 e6 e7
    subst e5 e7
    obtain rfl : cl = 3 := e6
    have hc := World.ownsRow.cellAt HBY.out 0 (by decide)
    have hc1 : _ = some (Value.int .u8 97) := hc
    clear hc h2 hcd hm hb o6 HQ hf HBY
    go_enter Tryd.func10, Tryd.ntmps10
    go_wp2
    go_ret
    refine ⟨_, rfl, ?_, bal HBE.out _⟩
    rw [HR.out]
    have h := bys_lit (w.alloc (.cells #[.int .i64 (y.i.k : Int), .string y.i.nm, .slice (some ⟨g, 0, none⟩) 3 cp, .int .i64 (y.i.fl : Int), .int .i64 (y.a : Int), .int .i64 (y.p : Int)] 35)) base (by simp; omega) [97, UInt8.ofNat (q / 256), UInt8.ofNat (q % 256)] (by show 3 ≤ 40; omega)
    have x1 : u8v (UInt8.ofNat (q / 256)) = .int .u8 ((q : Int) / 256 % 256) := u8v_of (by omega)
    have x2 : u8v (UInt8.ofNat (q % 256)) = .int .u8 ((q : Int) % 256) := u8v_of (by omega)
    simp only [List.map_cons, List.map_nil] at h
    rw [x1, x2, show u8v 97 = .int .u8 97 from rfl] at h
    simpa using h
  · have d : ((y.i.k : Int) != 2) = true := by simp; omega
    have HR : Hid (cwt f y = y.i.cd) := by show _ = _; unfold cwt; rw [if_neg h2]
    clear h2 hm hb o6
    go_enter Tryd.func10, Tryd.ntmps10
    go_wp2
    go_ret
    exact ⟨_, rfl, by rw [HR.out]; exact HBY.out, HBE.out⟩
end cin
end Go.Proofs.YtohoajjdoihekaaDoor

namespace Go.Proofs.YtohoajjdoihekaaDoor
open Go.RowKit
namespace cin
theorem cutS_le (s p : ByteArray) : (cutS s p).size ≤ s.size := by
  unfold cutS
  split
  · rw [ByteArray.size_extract]; omega
  · exact Nat.le_refl _
theorem cutP_le (s p : ByteArray) : (cutP s p).size ≤ s.size := by
  unfold cutP
  split
  · rw [ByteArray.size_extract]; omega
  · exact Nat.le_refl _
theorem itN_ok (t : ByteArray) : (itN t).nm.size = 0 ∧ (itN t).k = 0 ∧ (itN t).fl ≤ 4 ∧ ((itN t).fl = 0 → (itN t).cd ≠ []) := by
  unfold itN
  split
  · exact ⟨rfl, rfl, by show 0 ≤ 4; omega, fun _ h => by cases h⟩
  · split
    · exact ⟨rfl, rfl, by show 2 ≤ 4; omega, fun h => by cases h⟩
    · split
      · exact ⟨rfl, rfl, by show 4 ≤ 4; omega, fun h => by cases h⟩
      · exact ⟨rfl, rfl, by show 0 ≤ 4; omega, fun _ h => by unfold pcode pcs at h; cases h⟩
theorem itm_ok (t : ByteArray) (ht : t.size ≤ 2000) : (itm t).nm.size ≤ 2000 ∧ (itm t).k ≤ 2 ∧ (itm t).fl ≤ 4 ∧ ((itm t).k = 2 → (itm t).cd = [97, 0, 0]) ∧ ((itm t).fl = 0 → (itm t).cd ≠ []) := by
  have h1 := cutS_le t col
  have h2 := cutP_le t att
  unfold itm
  split
  · exact ⟨by show (cutS t col).size ≤ _; omega, by show 1 ≤ 2; omega, by show 0 ≤ 4; omega, fun h => (by cases h), fun _ h => (by cases h)⟩
  · split
    · exact ⟨by show (cutP t att).size ≤ _; omega, by show 2 ≤ 2; omega, by show 0 ≤ 4; omega, fun h => rfl, fun _ h => (by cases h)⟩
    · obtain ⟨a, b, c, d⟩ := itN_ok t
      exact ⟨by omega, by omega, c, fun h => by omega, d⟩
theorem rit_mem {y : Ri} : ∀ (L : List (ByteArray × Nat)) (p : Nat), y ∈ rit L p → ∃ x ∈ L, y.i = itm x.1 ∧ y.a = x.2 ∧ y.p ≤ p + 33 * L.length
  | [], p, h => by cases h
  | x :: r, p, h => by
    have hl := itm_len x.1
    rcases List.mem_cons.1 h with rfl | h
    · exact ⟨x, List.mem_cons_self, rfl, rfl, by show p ≤ _; omega⟩
    · obtain ⟨z, hz, h1, h2, h3⟩ := rit_mem r _ h
      exact ⟨z, List.mem_cons_of_mem _ hz, h1, h2, by rw [List.length_cons]; omega⟩
theorem lkp_some {t : ByteArray} {q : Nat} : ∀ {l : List Ri}, lkp t l = some q → ∃ y ∈ l, y.p = q
  | [], h => by cases h
  | y :: r, h => by
    rw [lkp] at h
    split at h
    · exact ⟨y, List.mem_cons_self, Option.some.inj h⟩
    · obtain ⟨z, hz, h2⟩ := lkp_some h
      exact ⟨z, List.mem_cons_of_mem _ hz, h2⟩
theorem lkp_label {y : Ri} : ∀ {l : List Ri}, y ∈ l → y.i.k = 1 → (lkp y.i.nm l).isSome = true
  | [], h, _ => by cases h
  | z :: r, h, hk => by
    rw [lkp]
    split
    · rfl
    · rename_i hn
      rcases List.mem_cons.1 h with rfl | h
      · exact absurd ⟨hk, rfl⟩ hn
      · exact lkp_label h hk
theorem rl_ok {s : ByteArray} (hs : s.size ≤ 2000) (hv : Whole s) {y : Ri} (hy : y ∈ rlist s) : Oky y ∧ (y.i.fl = 0 → y.i.cd ≠ []) ∧ y.a ≤ 2000 := by
  obtain ⟨x, hx, h1, h2, h3⟩ := rit_mem (spl s) 0 hy
  obtain ⟨f1, f2, f3, f4⟩ := spl_fit hv x hx
  have hl := spl_len s
  obtain ⟨a, b, c, d, e⟩ := itm_ok x.1 (Nat.le_trans f3 hs)
  have g := itm_len x.1
  rw [← h1] at a b c d e g
  exact ⟨⟨a, by omega, b, c, g, d⟩, e, by omega⟩
theorem okl_of {s : ByteArray} (hs : s.size ≤ 2000) (hv : Whole s) {l : List (Ri × Value)} (h : l.map Prod.fst = rlist s) : Okl l := by
  refine ⟨?_, fun y hy => ?_⟩
  · have h2 := congrArg List.length h
    rw [List.length_map] at h2
    have h3 := rit_len (spl s) 0
    have h4 := spl_len s
    unfold rlist at h2
    omega
  · have h2 : y.1 ∈ rlist s := by rw [← h]; exact List.mem_map_of_mem hy
    exact (rl_ok hs hv h2).1
theorem labs_le {s : ByteArray} (hs : s.size ≤ 2000) (hv : Whole s) (t : ByteArray) (q : Nat) (h : labs s t = some q) : q ≤ 100000 := by
  obtain ⟨y, hy, rfl⟩ := lkp_some h
  exact (rl_ok hs hv hy).1.2.1
theorem cwt_len {f : ByteArray → Option Nat} {y : Ri} (h : Oky y) : (cwt f y).length = y.i.cd.length := by
  unfold cwt
  split
  · rename_i hk; rw [h.2.2.2.2.2 hk]; rfl
  · rfl
theorem rn2_step {f : ByteArray → Option Nat} {l : List Ri} {j : Nat} {c : List UInt8} {R : List UInt8 ⊕ (Nat × Nat)} {y : Ri} (hj : j < l.length) (hy : y = l[j]) (hf : flt f y = 0) (h : rn2 f (l.drop j) c = R) : rn2 f (l.drop (j + 1)) (c ++ cwt f y) = R := by
  rw [List.drop_eq_getElem_cons hj, ← hy, rn2, if_pos hf] at h
  exact h
theorem rn2_bad {f : ByteArray → Option Nat} {l : List Ri} {j : Nat} {c : List UInt8} {R : List UInt8 ⊕ (Nat × Nat)} {y : Ri} (hj : j < l.length) (hy : y = l[j]) (hf : flt f y ≠ 0) (h : rn2 f (l.drop j) c = R) : R = .inr (flt f y, y.a) := by
  rw [List.drop_eq_getElem_cons hj, ← hy, rn2, if_neg hf] at h
  exact h.symm
theorem asm_long {s : ByteArray} (h : 2000 < s.size) : asm s = (⟨#[]⟩, 2, 0) := by unfold asm; rw [if_pos h]
theorem asm_torn {s : ByteArray} (h : s.size ≤ 2000) (hc : (cnt s).2 = false) : asm s = (⟨#[]⟩, 2, (cnt s).1) := by unfold asm; rw [if_neg (by omega), if_pos hc]
theorem asm_fault {s : ByteArray} (h : s.size ≤ 2000) (hc : (cnt s).2 = true) {e a : Nat} (hr : rn2 (labs s) (rlist s) [] = .inr (e, a)) : asm s = (⟨#[]⟩, e, a) := by unfold asm; rw [if_neg (by omega), if_neg (by rw [hc]; decide), hr]
theorem asm_big {s : ByteArray} (h : s.size ≤ 2000) (hc : (cnt s).2 = true) {c : List UInt8} (hr : rn2 (labs s) (rlist s) [] = .inl c) (hb : 1000 < c.length) : asm s = (⟨#[]⟩, 4, (cnt s).1) := by unfold asm; rw [if_neg (by omega), if_neg (by rw [hc]; decide), hr]; exact if_pos hb
theorem asm_code {s : ByteArray} (h : s.size ≤ 2000) (hc : (cnt s).2 = true) {c : List UInt8} (hr : rn2 (labs s) (rlist s) [] = .inl c) (hb : ¬ 1000 < c.length) : asm s = (⟨c.toArray⟩, 0, 0) := by unfold asm; rw [if_neg (by omega), if_neg (by rw [hc]; decide), hr]; exact if_neg hb
theorem cntF_le (s : ByteArray) : ∀ (f p k : Nat), p ≤ s.size → k ≤ p → (cntF s f p k).1 ≤ k + f
  | 0, p, k, _, _ => by rw [cntF]; exact Nat.le_refl _
  | f + 1, p, k, hp, hk => by
    rw [cntF]
    split
    · split
      · show k ≤ _; omega
      · rename_i h1 h2
        have := cntF_le s f (p + nx s p) (k + 1) (nx_le s p h1 h2) (by have := Nat.pos_of_ne_zero h2; omega)
        omega
    · show k ≤ _; omega
theorem cnt_le (s : ByteArray) : (cnt s).1 ≤ s.size := by have := cntF_le s s.size 0 0 (by omega) (by omega); unfold cnt; omega
end cin
end Go.Proofs.YtohoajjdoihekaaDoor
