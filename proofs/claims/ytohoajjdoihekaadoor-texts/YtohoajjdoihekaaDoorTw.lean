/-
  An item, the program's way.
-/
import Derived.Test.YtohoajjdoihekaaDoorTv
set_option linter.unusedVariables false
set_option linter.unusedSimpArgs false
namespace Go.Proofs.YtohoajjdoihekaaDoor
open Go.RowKit
namespace cin
set_option maxRecDepth 100000
def six (a b c d e f : Value) : Nat → Value := fun i => if i = 0 then a else if i = 1 then b else if i = 2 then c else if i = 3 then d else if i = 4 then e else f
theorem k6 {i : Nat} (h : i < 6) : i = 0 ∨ i = 1 ∨ i = 2 ∨ i = 3 ∨ i = 4 ∨ i = 5 := by omega
theorem row_lit6 {w : World} {n : Nat} {t : TypeId} (a b c d e f : Value) (hn : n = w.heap.size) : (w.alloc (.cells #[a, b, c, d, e, f] t)).rowIs n t 6 (six a b c d e f) := by
  subst hn
  refine World.rowIs_alloc w _ t _ fun i hi => ?_
  rcases k6 hi with rfl | rfl | rfl | rfl | rfl | rfl <;> rfl
theorem row_cells6 {w : World} {p : Nat} {t : TypeId} {a b c d e f : Value} (h : w.rowIs p t 6 (six a b c d e f)) :
    w.cell? ⟨p, 0, none⟩ = some a ∧ w.cell? ⟨p, 1, none⟩ = some b ∧ w.cell? ⟨p, 2, none⟩ = some c ∧ w.cell? ⟨p, 3, none⟩ = some d ∧ w.cell? ⟨p, 4, none⟩ = some e ∧ w.cell? ⟨p, 5, none⟩ = some f :=
  ⟨h.cell (i := 0) (by omega), h.cell (i := 1) (by omega), h.cell (i := 2) (by omega), h.cell (i := 3) (by omega), h.cell (i := 4) (by omega), h.cell (i := 5) (by omega)⟩
theorem row_put6 {w : World} {p : Nat} {t : TypeId} {g : Nat → Value} (h : w.rowIs p t 6 g) (a b c d e f : Value) :
    ((((((w.setCell ⟨p, 0, none⟩ a).setCell ⟨p, 1, none⟩ b).setCell ⟨p, 2, none⟩ c).setCell ⟨p, 3, none⟩ d).setCell ⟨p, 4, none⟩ e).setCell ⟨p, 5, none⟩ f).rowIs p t 6 (six a b c d e f) := by
  refine ((((((h.set 0 _).set 1 _).set 2 _).set 3 _).set 4 _).set 5 _).congr fun i hi => ?_
  rcases k6 hi with rfl | rfl | rfl | rfl | rfl | rfl <;> rfl
theorem below_put6 {w w' : World} (h : Below w.heap.size w w') {p : Nat} (hp : w.heap.size ≤ p) (a b c d e f : Value) :
    Below w.heap.size w ((((((w'.setCell ⟨p, 0, none⟩ a).setCell ⟨p, 1, none⟩ b).setCell ⟨p, 2, none⟩ c).setCell ⟨p, 3, none⟩ d).setCell ⟨p, 4, none⟩ e).setCell ⟨p, 5, none⟩ f) :=
  (((((h.setCell hp _).setCell hp _).setCell hp _).setCell hp _).setCell hp _).setCell hp _
theorem ownsRow_set {w : World} {base e size n : Nat} {v : Value} {xs : List Value} (h : w.ownsRow base e size v n xs) {p : Addr} (hp : p.block < base) (u : Value) : (w.setCell p u).ownsRow base e size v n xs := by
  refine ⟨h.1, h.2.imp id fun ⟨g, cap, cur, h1, h2, h3, h4⟩ => ⟨g, cap, cur, h1, h2, ?_, h4⟩⟩
  rw [Below.heap_setCell w p u g (by omega)]
  exact h3
theorem Bys.put6 {x : World} {base : Nat} {v : Value} {l : List UInt8} (h : Bys x base v l) {p : Nat} (hp : p < base) (a b c d e f : Value) :
    Bys ((((((x.setCell ⟨p, 0, none⟩ a).setCell ⟨p, 1, none⟩ b).setCell ⟨p, 2, none⟩ c).setCell ⟨p, 3, none⟩ d).setCell ⟨p, 4, none⟩ e).setCell ⟨p, 5, none⟩ f) base v l :=
  ownsRow_set (ownsRow_set (ownsRow_set (ownsRow_set (ownsRow_set (ownsRow_set h hp _) hp _) hp _) hp _) hp _) hp _
theorem ownsRow_below {w w' : World} {base e size n : Nat} {v : Value} {xs : List Value} (h : w.ownsRow base e size v n xs) (hb : Below w.heap.size w w') : w'.ownsRow base e size v n xs := by
  refine ⟨h.1, h.2.imp id fun ⟨g, cap, cur, h1, h2, h3, h4⟩ => ⟨g, cap, cur, h1, h2, ?_, h4⟩⟩
  rw [hb.block g (lt_of_block h3)]
  exact h3
theorem bys_lit (w : World) (base : Nat) (hb : base ≤ w.heap.size) (l : List UInt8) (hl : l.length ≤ 40) : Bys (w.alloc (.cells (l.map u8v).toArray 5)) base (.slice (some ⟨w.heap.size, 0, none⟩) l.length l.length) l := by
  have h := World.ownsRow_lit (base := base) (e := 5) (size := 1) w (l.map u8v).toArray l.length hb (by unfold maxLen; omega) (by simp)
  have e : (l.map u8v).toArray.toList = l.map u8v := rfl
  rw [e] at h
  exact h
/-- an item as a value -/
def itV (i : It) (v : Value) (a p : Nat) : Value := .agg #[.int .i64 (i.k : Int), .string i.nm, v, .int .i64 (i.fl : Int), .int .i64 (a : Int), .int .i64 (p : Int)]
structure RI (w x : World) : Prop where
  r : x.rowIs w.heap.size 35 6 (six (.int .i64 0) (.string ⟨#[]⟩) (.slice none 0 0) (.int .i64 0) (.int .i64 0) (.int .i64 0))
  be : Below w.heap.size w x
theorem RI.call {w x y : World} (h : RI w x) (hb : Below x.heap.size x y) : RI w y := ⟨row_below h.r hb, bcall h.be hb⟩
def Got (s : ByteArray) (w : World) (e : Ending) (w' : World) : Prop := ∃ v, e = .returned (itV (itm s) v 0 0) ∧ Bys w' w.heap.size v (itm s).cd ∧ Below w.heap.size w w'
set_option maxRecDepth 100000 in
set_option maxHeartbeats 8000000 in
theorem readItem_any (s : ByteArray) (hs : s.size ≤ 2000) (hv : Hid (Whole s)) (h0 : 0 < s.size) (w : World) : Calls Tryd.prog 16 #[.string s] w fun e w' => Got s w e w' := by
  obtain ⟨t, HT⟩ : ∃ t, Hid (t = cutS s col) := ⟨_, rfl⟩
  obtain ⟨q, HQ⟩ : ∃ q, Hid (q = sf s col) := ⟨_, rfl⟩
  have HCS : Hid (∀ w, Calls Tryd.prog 25 #[.string s, .string ⟨#[58]⟩] w fun e w' => e = .returned (.tuple #[.string t, .bool q]) ∧ w' = w) := fun w => by
    have h := cutSuffix_any s col hs (by decide) w
    rw [← HT.out, ← HQ.out] at h
    exact h
  have HPN : Hid (q = true → ∀ w, Calls Tryd.prog 26 #[.string t] w fun e w' => e = .returned (.bool (isL s)) ∧ Below w.heap.size w w') := fun hq w => by
    have hsf : sf s col = true := by rw [← HQ.out, hq]
    have ht : t = s.extract 0 (s.size - 1) := by rw [HT.out, cut_col hsf]
    have hb : byt s (s.size - 1) = 58 := by
      rw [sf_col, Bool.and_eq_true, decide_eq_true_eq, decide_eq_true_eq] at hsf
      exact hsf.2
    have hw : Whole t := by rw [ht]; exact hv.out.butLast h0 (by omega)
    have h := pisName_any t (by rw [ht, ByteArray.size_extract]; omega) hw.cnt w
    have e : isL s = nm t := by unfold isL; rw [hsf, Bool.true_and, HT.out]
    rw [e]
    exact h
  have HFL : Hid (q = false → isL s = false) := fun hq => by unfold isL; rw [← HQ.out, hq]; rfl
  have hri : RI w (w.alloc (.cells #[.int .i64 0, .string ⟨#[]⟩, .slice none 0 0, .int .i64 0, .int .i64 0, .int .i64 0] 35)) := ⟨row_lit6 _ _ _ _ _ _ rfl, bal (Below.refl _ _) _⟩
  go_enter Tryd.func16, Tryd.ntmps16
  go_wp2_with fail
  refine (HCS.out _).mono ?_
  rintro e w' ⟨rfl, rfl⟩
  go_upto_region 2 with fail
  go_cut [20] (fun t20 wx => t20 = .bool (isL s) ∧ RI w wx)
  case first =>
    cases q
    · have E := HFL.out rfl
      go_wp2_with fail
      go_meet
      case rel => exact ⟨by rw [E], hri⟩
    · have HP2 := hid_of (HPN.out rfl)
      clear HPN HFL
      go_wp2_with fail
      refine (HP2.out _).mono ?_
      rintro e w2 ⟨rfl, hb2⟩
      go_wp2_with fail
      go_meet
      case rel => exact ⟨rfl, hri.call hb2⟩
  case rest =>
    clear HPN HFL hri
    obtain ⟨rfl, hri⟩ := hcut
    cases hL : isL s
    · obtain ⟨t2, HT2⟩ : ∃ t, Hid (t = cutP s att) := ⟨_, rfl⟩
      obtain ⟨q2, HQ2⟩ : ∃ q, Hid (q = pf s att) := ⟨_, rfl⟩
      have HCP : Hid (∀ w, Calls Tryd.prog 27 #[.string s, .string ⟨#[64]⟩] w fun e w' => e = .returned (.tuple #[.string t2, .bool q2]) ∧ w' = w) := fun w => by
        have h := cutPrefix_any s att hs (by decide) w
        rw [← HT2.out, ← HQ2.out] at h
        exact h
      have HPN : Hid (q2 = true → ∀ w, Calls Tryd.prog 26 #[.string t2] w fun e w' => e = .returned (.bool (isA s)) ∧ Below w.heap.size w w') := fun hq w => by
        have hsf : pf s att = true := by rw [← HQ2.out, hq]
        have ht : t2 = s.extract 1 s.size := by rw [HT2.out, cut_att hsf]
        have hb : byt s 0 = 64 := by
          rw [pf_att s h0, decide_eq_true_eq] at hsf
          exact hsf
        have hw : Whole t2 := by rw [ht]; exact hv.out.butFirst h0 (by omega)
        have h := pisName_any t2 (by rw [ht, ByteArray.size_extract]; omega) hw.cnt w
        have e : isA s = nm t2 := by unfold isA; rw [hsf, Bool.true_and, HT2.out]
        rw [e]
        exact h
      have HFL : Hid (q2 = false → isA s = false) := fun hq => by unfold isA; rw [← HQ2.out, hq]; rfl
      go_wp2_with fail
      refine (HCP.out _).mono ?_
      rintro e w' ⟨rfl, rfl⟩
      go_upto_region 5 with fail
      go_cut [33] (fun t33 wx => t33 = .bool (isA s) ∧ RI w wx)
      case first =>
        cases q2
        · have E := HFL.out rfl
          go_wp2_with fail
          go_meet
          case rel => exact ⟨by rw [E], hri⟩
        · have HP2 := hid_of (HPN.out rfl)
          clear HPN HFL
          go_wp2_with fail
          refine (HP2.out _).mono ?_
          rintro e w2 ⟨rfl, hb2⟩
          go_wp2_with fail
          go_meet
          case rel => exact ⟨rfl, hri.call hb2⟩
      case rest =>
        clear HPN HFL hri
        obtain ⟨rfl, hri⟩ := hcut
        cases hA : isA s
        · have HIN : Hid (itm s = itN s) := by show _ = _; unfold itm; rw [hL, hA]; rfl
          clear hL hA
          obtain ⟨o, HO⟩ : ∃ o, Hid (o = named s) := ⟨_, rfl⟩
          go_wp2_with fail
          refine (named_any s hs _).mono ?_
          rintro e w' ⟨rfl, rfl⟩
          rw [← HO.out]
          cases o with
          | some b =>
            have HI : Hid (itm s = ⟨0, ⟨#[]⟩, [UInt8.ofNat b], 0⟩) := by show _ = _; rw [HIN.out, itN_some HO.out.symm]
            have hb256 := (named_ok HO.out.symm).2.2
            unfold pr
            simp only [Option.getD_some, Option.isSome_some]
            have hr2 := hri.r.alloc (.cells #[.int .u8 (b : Int)] 5)
            have hlt := hri.r.lt
            have hby : Bys (w'.alloc (.cells #[.int .u8 (b : Int)] 5)) (w.heap.size + 1) (.slice (some ⟨w'.heap.size, 0, none⟩) 1 1) [UInt8.ofNat b] := by
              have h := bys_lit w' (w.heap.size + 1) (by omega) [UInt8.ofNat b] (by show 1 ≤ 40; omega)
              have e : u8v (UInt8.ofNat b) = .int .u8 (b : Int) := by unfold u8v; rw [UInt8.toNat_ofNat_of_lt' hb256]
              rw [← e]
              exact h
            have hbe2 := bal hri.be (.cells #[.int .u8 (b : Int)] 5)
            have HY := hid_of hby
            have HLT := hid_of hlt
            obtain ⟨c0, c1, c2, c3, c4, c5⟩ := row_cells6 hr2
            have fz := hr2.frozen
            clear hby hlt
            go_wp2
            have hby := HY.out
            obtain ⟨q0, q1, q2, q3, q4, q5⟩ := row_cells6 (row_put6 hr2 (.int .i64 0) (.string ⟨#[]⟩) ((.slice (some ⟨w'.heap.size, 0, none⟩) 1 1)) (.int .i64 0) (.int .i64 0) (.int .i64 0))
            refine bodyPost_ret (v := itV (itm s) ((.slice (some ⟨w'.heap.size, 0, none⟩) 1 1)) 0 0) ?_ rfl ⟨_, rfl, ?_, below_put6 hbe2 (Nat.le_refl _) _ _ _ _ _ _⟩
            · rw [HI.out]; simp [results, Tryd.results16, go_sem, q0, q1, q2, q3, q4, q5]; rfl
            · rw [HI.out]; exact (Bys.put6 hby (by have := HLT.out; omega) _ _ _ _ _ _).mono (by have := HLT.out; omega)
          | none =>
            have hnd : named s = none := HO.out.symm
            have HRN : rnumber s = match nres (nt s) (nb s) with
                | none => (0, 2)
                | some (n, g) => if g then (0, 4) else (n, 0) := by unfold rnumber; rw [rnum_nres, nums_agree] <;> cases nres (cutP s x0) (rbase s) <;> rfl
            have HIN2 := itN_none hnd
            rw [← HIN.out] at HIN2
            unfold pr
            simp only [Option.getD_none, Option.isSome_none]
            clear HIN hnd
            have HX : Hid (∃ (n : Nat) (k : Nat), rnumber s = (n, (k : Int)) ∧ ((k ≠ 0 ∧ (k = 2 ∨ k = 4) ∧ itm s = ⟨0, ⟨#[]⟩, [], k⟩) ∨ (k = 0 ∧ itm s = ⟨0, ⟨#[]⟩, pcode n, 0⟩))) := by
              cases hr : nres (nt s) (nb s) with
              | none => rw [hr] at HRN HIN2; exact ⟨0, 2, HRN, Or.inl ⟨by omega, Or.inl rfl, HIN2⟩⟩
              | some p =>
                obtain ⟨n, g⟩ := p
                rw [hr] at HRN HIN2
                cases g
                · exact ⟨n, 0, HRN, Or.inr ⟨rfl, HIN2⟩⟩
                · exact ⟨0, 4, HRN, Or.inl ⟨by omega, Or.inr rfl, HIN2⟩⟩
            clear HRN HIN2
            obtain ⟨n, k, hrn, hX⟩ := HX.out
            have HRN2 : Hid (rnumber s = (n, (k : Int))) := hrn
            clear hrn HX
            have HX2 := hid_of hX
            clear hX
            have HRI := hid_of hri
            clear hri
            go_wp2_with fail
            refine (readNumber_any s hs _).mono ?_
            rintro e w1 ⟨r, k2, HR, rfl, hb1⟩
            have hrk : (r, k2) = (n, (k : Int)) := HR.out.trans HRN2.out
            obtain ⟨rfl, rfl⟩ : r = n ∧ k2 = (k : Int) := by injection hrk with h1 h2; exact ⟨h1, h2⟩
            have hri1 := HRI.out.call hb1
            have hri : RI w (w1.alloc (.cells #[.int .u64 (limb r 0), .int .u64 (limb r 1), .int .u64 (limb r 2), .int .u64 (limb r 3)] 58)) := ⟨hri1.r.alloc _, bal hri1.be _⟩
            have hlt := hri1.r.lt
            have HLT := hid_of hlt
            clear hrk HR HRN2 hb1 hri1 HRI hlt
            rcases HX2.out with ⟨hk0, hk24, hI⟩ | ⟨rfl, hI⟩
            · have HI := hid_of hI
              clear HX2 hI
              have hd : ((k : Int) != 0) = true := by simp; omega
              have hr2 := hri.r
              have hbe2 := hri.be
              have HY : Hid (Bys (w1.alloc (.cells #[.int .u64 (limb r 0), .int .u64 (limb r 1), .int .u64 (limb r 2), .int .u64 (limb r 3)] 58)) (w.heap.size + 1) (.slice none 0 0) []) := World.ownsRow_nil _ _ _ _
              obtain ⟨c0, c1, c2, c3, c4, c5⟩ := row_cells6 hr2
              have fz := hr2.frozen
              go_wp2
              have hby := HY.out
              obtain ⟨q0, q1, q2, q3, q4, q5⟩ := row_cells6 (row_put6 hr2 (.int .i64 0) (.string ⟨#[]⟩) (.slice none 0 0) (.int .i64 (k : Int)) (.int .i64 0) (.int .i64 0))
              refine bodyPost_ret (v := itV (itm s) (.slice none 0 0) 0 0) ?_ rfl ⟨_, rfl, ?_, below_put6 hbe2 (Nat.le_refl _) _ _ _ _ _ _⟩
              · rw [HI.out]; simp [results, Tryd.results16, go_sem, q0, q1, q2, q3, q4, q5]; rfl
              · rw [HI.out]; exact (Bys.put6 hby (by have := HLT.out; omega) _ _ _ _ _ _).mono (by have := HLT.out; omega)
            · have HI := hid_of hI
              clear HX2 hI
              have hrow : (w1.alloc (.cells #[.int .u64 (limb r 0), .int .u64 (limb r 1), .int .u64 (limb r 2), .int .u64 (limb r 3)] 58)).rowIs w1.heap.size 58 4 (u64s (limb r)) := row_lit4 (limb r) rfl rfl rfl rfl rfl
              obtain ⟨d0, d1, d2, d3⟩ := row_cells4 hrow
              go_wp2_with fail
              refine (push_any r _).mono ?_
              rintro e w2 ⟨v, rfl, hby0, hb2⟩
              have hri2 := hri.call hb2
              have hr2 := hri2.r
              have hbe2 := hri2.be
              have hby1 : Bys w2 (w.heap.size + 1) v (pcode r) := hby0.mono (by have := HLT.out; simp; omega)
              have HY := hid_of hby1
              obtain ⟨g, cap, rfl, hg1, hg2, hg3⟩ := own_shape hby1 (by unfold pcode pcs; simp)
              clear hby0 hby1 hrow d0 d1 d2 d3 hri hb2 hri2 hg1 hg2 hg3
              obtain ⟨c0, c1, c2, c3, c4, c5⟩ := row_cells6 hr2
              have fz := hr2.frozen
              generalize (pcode r).length = cl at *
              go_wp2
              have hby := HY.out
              obtain ⟨q0, q1, q2, q3, q4, q5⟩ := row_cells6 (row_put6 hr2 (.int .i64 0) (.string ⟨#[]⟩) (.slice (some ⟨g, 0, none⟩) cl cap) (.int .i64 0) (.int .i64 0) (.int .i64 0))
              refine bodyPost_ret (v := itV (itm s) (.slice (some ⟨g, 0, none⟩) cl cap) 0 0) ?_ rfl ⟨_, rfl, ?_, below_put6 hbe2 (Nat.le_refl _) _ _ _ _ _ _⟩
              · rw [HI.out]; simp [results, Tryd.results16, go_sem, q0, q1, q2, q3, q4, q5]; rfl
              · rw [HI.out]; exact (Bys.put6 hby (by have := HLT.out; omega) _ _ _ _ _ _).mono (by have := HLT.out; omega)
        · have HI : Hid (itm s = ⟨2, t2, [97, 0, 0], 0⟩) := by show _ = _; unfold itm; rw [hL, hA, HT2.out]; rfl
          clear hL hA
          have hr2 := hri.r.alloc (.cells #[.int .u8 97, .int .u8 0, .int .u8 0] 5)
          have hlt := hri.r.lt
          have hby : Bys (wc.alloc (.cells #[.int .u8 97, .int .u8 0, .int .u8 0] 5)) (w.heap.size + 1) (.slice (some ⟨wc.heap.size, 0, none⟩) 3 3) [97, 0, 0] := bys_lit wc _ (by omega) [97, 0, 0] (by decide)
          have hbe2 := bal hri.be (.cells #[.int .u8 97, .int .u8 0, .int .u8 0] 5)
          have HY := hid_of hby
          have HLT := hid_of hlt
          obtain ⟨c0, c1, c2, c3, c4, c5⟩ := row_cells6 hr2
          have fz := hr2.frozen
          clear hby hlt
          go_wp2
          have hby := HY.out
          obtain ⟨q0, q1, q2, q3, q4, q5⟩ := row_cells6 (row_put6 hr2 (.int .i64 2) (.string t2) ((.slice (some ⟨wc.heap.size, 0, none⟩) 3 3)) (.int .i64 0) (.int .i64 0) (.int .i64 0))
          refine bodyPost_ret (v := itV (itm s) ((.slice (some ⟨wc.heap.size, 0, none⟩) 3 3)) 0 0) ?_ rfl ⟨_, rfl, ?_, below_put6 hbe2 (Nat.le_refl _) _ _ _ _ _ _⟩
          · rw [HI.out]; simp [results, Tryd.results16, go_sem, q0, q1, q2, q3, q4, q5]; rfl
          · rw [HI.out]; exact (Bys.put6 hby (by have := HLT.out; omega) _ _ _ _ _ _).mono (by have := HLT.out; omega)
    · have HI : Hid (itm s = ⟨1, t, [91], 0⟩) := by show _ = _; unfold itm; rw [hL, HT.out]; rfl
      clear hL
      have hr2 := hri.r.alloc (.cells #[.int .u8 91] 5)
      have hlt := hri.r.lt
      have hby : Bys (wc.alloc (.cells #[.int .u8 91] 5)) (w.heap.size + 1) (.slice (some ⟨wc.heap.size, 0, none⟩) 1 1) [91] := bys_lit wc _ (by omega) [91] (by decide)
      have hbe2 := bal hri.be (.cells #[.int .u8 91] 5)
      have HY := hid_of hby
      have HLT := hid_of hlt
      obtain ⟨c0, c1, c2, c3, c4, c5⟩ := row_cells6 hr2
      have fz := hr2.frozen
      clear hby hlt
      go_wp2
      have hby := HY.out
      obtain ⟨q0, q1, q2, q3, q4, q5⟩ := row_cells6 (row_put6 hr2 (.int .i64 1) (.string t) ((.slice (some ⟨wc.heap.size, 0, none⟩) 1 1)) (.int .i64 0) (.int .i64 0) (.int .i64 0))
      refine bodyPost_ret (v := itV (itm s) ((.slice (some ⟨wc.heap.size, 0, none⟩) 1 1)) 0 0) ?_ rfl ⟨_, rfl, ?_, below_put6 hbe2 (Nat.le_refl _) _ _ _ _ _ _⟩
      · rw [HI.out]; simp [results, Tryd.results16, go_sem, q0, q1, q2, q3, q4, q5]; rfl
      · rw [HI.out]; exact (Bys.put6 hby (by have := HLT.out; omega) _ _ _ _ _ _).mono (by have := HLT.out; omega)
end cin
end Go.Proofs.YtohoajjdoihekaaDoor
