/-
  An item's bytes, the document's way.
-/
import Derived.Test.YtohoajjdoihekaaDoorTu
import Derived.Deep.DeepCutAuto
set_option linter.unusedVariables false
set_option linter.unusedSimpArgs false
namespace Go.Proofs.YtohoajjdoihekaaDoor
open Go.RowKit
namespace cin
set_option maxRecDepth 100000
def laidV (i : It) : Value := .tuple #[.string ⟨i.cd.toArray⟩, .string (if i.k = 1 then i.nm else ⟨#[]⟩), .string (if i.k = 2 then i.nm else ⟨#[]⟩), .int .i64 (if i.fl = 0 then 0 else if i.fl = 2 then 1 else 2)]
theorem cvt3 (a b c : Int) (w : World) : (convert 32 9 (.slice (some ⟨w.heap.size, 0, none⟩) 3 3)).run Tryd.prog (w.alloc (.cells #[.int .u8 a, .int .u8 b, .int .u8 c] 5)) = .ok (.string ⟨#[UInt8.ofNat a.toNat, UInt8.ofNat b.toNat, UInt8.ofNat c.toNat]⟩) (w.alloc (.cells #[.int .u8 a, .int .u8 b, .int .u8 c] 5)) := by
  have h := run_convert_bytes_arg (P := Tryd.prog) (w.alloc (.cells #[.int .u8 a, .int .u8 b, .int .u8 c] 5)) 32 5 (by kernel_rfl) (by kernel_rfl) w.heap.size 0 3 3 [a, b, c] rfl (fun i hi => by
    rcases (by omega : i = 0 ∨ i = 1 ∨ i = 2) with rfl | rfl | rfl <;> simp) 9 (by kernel_rfl)
  exact h
theorem cvt1d (c : Int) (w : World) : (convert 32 9 (.slice (some ⟨w.heap.size, 0, none⟩) 1 1)).run Tryd.prog (w.alloc (.cells #[.int .u8 c] 5)).drew = .ok (.string ⟨#[UInt8.ofNat c.toNat]⟩) (w.alloc (.cells #[.int .u8 c] 5)).drew := cvt1 c w.drew
theorem cvt3d (a b c : Int) (w : World) : (convert 32 9 (.slice (some ⟨w.heap.size, 0, none⟩) 3 3)).run Tryd.prog (w.alloc (.cells #[.int .u8 a, .int .u8 b, .int .u8 c] 5)).drew = .ok (.string ⟨#[UInt8.ofNat a.toNat, UInt8.ofNat b.toNat, UInt8.ofNat c.toNat]⟩) (w.alloc (.cells #[.int .u8 a, .int .u8 b, .int .u8 c] 5)).drew := cvt3 a b c w.drew
set_option maxRecDepth 100000 in
set_option maxHeartbeats 4000000 in
theorem laid_label (s : ByteArray) (hs : s.size ≤ 2000) (h1 : 1 < s.size) (hc : byt s (s.size - 1) = 58) (hn : nm (s.extract 0 (s.size - 1)) = true) (w : World) : Calls Tryd.prog 12 #[.string s] w fun e w' => e = .returned (laidV (itm s)) ∧ Below w.heap.size w w' := by
  have HI : Hid (laidV (itm s) = .tuple #[.string ⟨#[91]⟩, .string (s.extract 0 (s.size - 1)), .string ⟨#[]⟩, .int .i64 0]) := by
    have hL : isL s = true := by rw [isL_eq s (by omega), decide_eq_true h1, decide_eq_true hc, hn]; rfl
    have hsf : sf s col = true := by rw [sf_col, decide_eq_true (show 1 ≤ s.size by omega), decide_eq_true hc]; rfl
    show _ = _
    unfold itm
    rw [hL, if_pos rfl, cut_col hsf]
    rfl
  obtain ⟨m, hm⟩ : ∃ m, s.size - 1 = m := ⟨_, rfl⟩
  rw [hm] at HI hc hn
  have hmi : (s.size : Int) - 1 = (m : Int) := by omega
  have hml : m < s.size := by omega
  have hx := byt_at s m hml
  rw [hc] at hx
  have HN : Hid (∀ w, Calls Tryd.prog 18 #[.string (s.extract 0 m)] w fun e w' => e = .returned (.bool true) ∧ w' = w) := fun w => by
    have h := risName_any (s.extract 0 m) (by rw [ByteArray.size_extract]; omega) w
    rw [hn] at h
    exact h
  have hcv := cvt1d 91
  clear hm hc hn
  go_enter Tryd.func12, Tryd.ntmps12
  go_wp2_with fail
  refine (HN.out _).mono ?_
  rintro e w' ⟨rfl, rfl⟩
  go_wp2
  go_region
  all_goals (try go_wp2)
  all_goals refine bodyPost_ret (v := laidV (itm s)) ?_ rfl ⟨rfl, (bal (Below.refl _ _) _).drew⟩
  all_goals rw [HI.out]
  all_goals simp [results, Tryd.results12, go_sem]
def numN (o : Option (Nat × Bool)) (e : Ending) : Prop := match o with
  | none => ∃ r g, e = .returned (.tuple #[wv r, .bool false, .bool g])
  | some (n, g) => e = .returned (.tuple #[wv n, .bool true, .bool g])
theorem numO_nres {t : ByteArray} {b : Nat} {e : Ending} (h : numO t b e) : numN (nres t b) e := by
  unfold numO at h
  unfold nres
  match hm : num t b with
  | none => rw [hm] at h; obtain ⟨r, h⟩ := h; exact ⟨r, false, h⟩
  | some (n, g) =>
    rw [hm] at h
    dsimp only at h ⊢
    by_cases h0 : t.size = 0
    · rw [if_pos h0]
      rw [decide_eq_false (by omega)] at h
      exact ⟨n, g, h⟩
    · rw [if_neg h0]
      rw [decide_eq_true (by omega)] at h
      exact h
set_option maxRecDepth 100000 in
set_option maxHeartbeats 8000000 in
theorem laid_rest (s : ByteArray) (hs : s.size ≤ 2000) (h0 : 0 < s.size) (hL : Hid (isL s = false)) (w : World) : Calls Tryd.prog 12 #[.string s] w fun e w' => e = .returned (laidV (itm s)) ∧ Below w.heap.size w w' := by
  obtain ⟨m, hm⟩ : ∃ m, s.size - 1 = m := ⟨_, rfl⟩
  have hmi : (s.size : Int) - 1 = (m : Int) := by omega
  have hml : m < s.size := by omega
  have hx := byt_at s m hml
  have HL2 : Hid (¬ (1 < s.size ∧ byt s m = 58 ∧ nm (s.extract 0 m) = true)) := fun ⟨a, b, c⟩ => by
    have h := hL.out
    rw [isL_eq s h0, hm, decide_eq_true a, decide_eq_true b, c] at h
    cases h
  clear hm
  obtain ⟨q, HQ⟩ : ∃ q, Hid (q = (decide (1 < s.size) && decide (byt s m = 58))) := ⟨_, rfl⟩
  have HQ2 : Hid (q = true → 1 < s.size ∧ nm (s.extract 0 m) = false) := fun h => by
    rw [HQ.out, Bool.and_eq_true, decide_eq_true_eq, decide_eq_true_eq] at h
    refine ⟨h.1, ?_⟩
    cases hn : nm (s.extract 0 m)
    · rfl
    · exact absurd ⟨h.1, h.2, hn⟩ HL2.out
  go_enter Tryd.func12, Tryd.ntmps12
  go_upto_region 2 with fail
  go_cut [24] (fun t24 wx => t24 = .bool q ∧ Hid (wx = w))
  case first =>
    by_cases h1 : 1 < s.size
    · by_cases hc : byt s m = 58
      · have E : Hid (q = true) := by show _ = _; rw [HQ.out, decide_eq_true h1, decide_eq_true hc]; rfl
        rw [hc] at hx
        clear hc
        go_wp2_with fail
        go_meet
        case rel => exact ⟨by rw [E.out], rfl⟩
      · have hd : ((byt s m : Int) == 58) = false := by simp; omega
        have E : Hid (q = false) := by show _ = _; rw [HQ.out, decide_eq_true h1, decide_eq_false hc]; rfl
        generalize byt s m = b at *
        go_wp2_with fail
        go_meet
        case rel => exact ⟨by rw [E.out], rfl⟩
    · have E : Hid (q = false) := by show _ = _; rw [HQ.out, decide_eq_false h1]; rfl
      go_wp2_with fail
      go_meet
      case rel => exact ⟨by rw [E.out], rfl⟩
  case rest =>
    obtain ⟨rfl, HW⟩ := hcut
    go_upto_if 24 with fail
    go_cut [0] (fun t0 wx => t0 = .string s ∧ Hid (wx = w))
    case first =>
      cases q
      · go_wp2_with fail
        go_meet
        case rel => exact ⟨rfl, HW⟩
      · obtain ⟨h1, hn⟩ := HQ2.out rfl
        have HN : Hid (∀ w, Calls Tryd.prog 18 #[.string (s.extract 0 m)] w fun e w' => e = .returned (.bool false) ∧ w' = w) := fun w => by
          have h := risName_any (s.extract 0 m) (by rw [ByteArray.size_extract]; omega) w
          rw [hn] at h
          exact h
        clear hn
        go_wp2_with fail
        refine (HN.out _).mono ?_
        rintro e w' ⟨rfl, rfl⟩
        go_wp2_with fail
        go_meet
        case rel => exact ⟨rfl, HW⟩
    case rest =>
      obtain ⟨rfl, HW2⟩ := hcut
      clear HQ HQ2 HL2 hmi hml hx HW
      have hx := byt_at s 0 h0
      cases hA : isA s
      · have HI : Hid (itm s = itN s) := by show _ = _; unfold itm; rw [hL.out, hA]; rfl
        have HA2 : Hid (¬ (byt s 0 = 64 ∧ nm (s.extract 1 s.size) = true)) := fun ⟨a, b⟩ => by
          rw [isA_eq s h0, decide_eq_true a, b] at hA
          cases hA
        clear hA
        go_upto_if 39 with fail
        go_cut [0] (fun t0 wx => t0 = .string s ∧ Hid (wx = w))
        case first =>
          by_cases hb : byt s 0 = 64
          · have hn : nm (s.extract 1 s.size) = false := by
              cases h : nm (s.extract 1 s.size)
              · rfl
              · exact absurd ⟨hb, h⟩ HA2.out
            have HN : Hid (∀ w, Calls Tryd.prog 18 #[.string (s.extract 1 s.size)] w fun e w' => e = .returned (.bool false) ∧ w' = w) := fun w => by
              have h := risName_any (s.extract 1 s.size) (by rw [ByteArray.size_extract]; omega) w
              rw [hn] at h
              exact h
            have h1t : 1 ≤ s.size := h0
            have hd : ((byt s 0 : Int) == 64) = true := by rw [hb]; rfl
            clear hb hn hx
            go_wp2_with fail
            refine (HN.out _).mono ?_
            rintro e w' ⟨rfl, rfl⟩
            go_wp2_with fail
            go_meet
            case rel => exact ⟨rfl, HW2⟩
          · have hd : ((byt s 0 : Int) == 64) = false := by simp; omega
            generalize byt s 0 = b at *
            go_wp2_with fail
            go_meet
            case rel => exact ⟨rfl, HW2⟩
        case rest =>
          obtain ⟨rfl, HW3⟩ := hcut
          clear hx HA2 HW2
          go_wp2_with fail
          refine (rnumber_any s hs _).mono ?_
          rintro e w1 ⟨hnum, hb1⟩
          have hnn := numO_nres hnum
          clear hnum
          have hb2 : Below w.heap.size w w1 := HW3.out ▸ hb1
          clear hb1
          have HB : Hid (Below w.heap.size w w1) := hb2
          clear hb2
          cases hr : nres (nt s) (nb s) with
          | none =>
            rw [hr] at hnn
            obtain ⟨r, g, rfl⟩ := hnn
            have HR : Hid (nres (nt s) (nb s) = none) := hr
            clear hr
            have HZ : Hid (s.size ≠ 0) := by show _ ≠ _; omega
            have HNA : Hid (rnm s = orm (named s)) := names_agree s (by omega)
            go_wp2_with fail
            refine (rnamed_any s hs HZ _).mono ?_
            rintro e w2 ⟨rfl, hb2⟩
            have HB2 : Hid (Below w.heap.size w w2) := bcall (bal HB.out _) hb2
            clear hb2
            cases hnd : named s with
            | none =>
              rw [HNA.out, hnd]
              have HF : Hid (laidV (itm s) = .tuple #[.string ⟨#[]⟩, .string ⟨#[]⟩, .string ⟨#[]⟩, .int .i64 1]) := by
                show _ = _
                rw [HI.out, itN_none hnd, HR.out]
                rfl
              simp only [orm]
              clear hnd
              go_wp2
              refine bodyPost_ret (v := laidV (itm s)) ?_ rfl ⟨rfl, HB2.out⟩
              rw [HF.out]
              simp [results, Tryd.results12, go_sem]
            | some v =>
              rw [HNA.out, hnd]
              have hv := (named_ok hnd).2.2
              have HF : Hid (laidV (itm s) = .tuple #[.string ⟨#[UInt8.ofNat ((v : Int).toNat)]⟩, .string ⟨#[]⟩, .string ⟨#[]⟩, .int .i64 0]) := by
                show _ = _
                rw [HI.out, itN_some hnd]
                rfl
              simp only [orm]
              have hcv := cvt1 (v : Int)
              clear hnd
              go_wp2
              refine bodyPost_ret (v := laidV (itm s)) ?_ rfl ⟨rfl, bal HB2.out _⟩
              rw [HF.out]
              simp [results, Tryd.results12, go_sem]
          | some p =>
            obtain ⟨n, g⟩ := p
            rw [hr] at hnn
            obtain rfl : e = _ := hnn
            have hnd : named s = none := by
              cases h : named s
              · rfl
              · rw [named_none h] at hr; cases hr
            cases g
            · have HF : Hid (itm s = ⟨0, ⟨#[]⟩, pcode n, 0⟩) := by
                show _ = _
                rw [HI.out, itN_none hnd, hr]
                rfl
              clear hr hnd
              have hrow : (w1.alloc (.cells #[.int .u64 (limb n 0), .int .u64 (limb n 1), .int .u64 (limb n 2), .int .u64 (limb n 3)] 58)).rowIs w1.heap.size 58 4 (u64s (limb n)) := row_lit4 (limb n) rfl rfl rfl rfl rfl
              obtain ⟨c0, c1, c2, c3⟩ := row_cells4 hrow
              go_wp2_with fail
              refine (bytesOf_any n _).mono ?_
              rintro e w2 ⟨rfl, hb2⟩
              have HB2 : Hid (Below w.heap.size w w2) := bcall (bal HB.out _) hb2
              have h32 : (by32 n).size = 32 := rfl
              have HL3 : Hid (bl (lst (by32 n)) = pl n 0) := lst_by32 n
              clear hb2 hrow c0 c1 c2 c3
              go_wp2_with fail
              refine (least_any (by32 n) (by omega) _).mono ?_
              rintro e w3 ⟨rfl, rfl⟩
              have hll : (lst (by32 n)).size ≤ 32 := by
                have h := pl_len n 0
                rw [← HL3.out] at h
                exact h
              have HF2 : Hid (laidV (itm s) = .tuple #[.string (⟨#[UInt8.ofNat ((95 + ((lst (by32 n)).size : Int)).toNat)]⟩ ++ lst (by32 n)), .string ⟨#[]⟩, .string ⟨#[]⟩, .int .i64 0]) := by
                show _ = _
                rw [HF.out]
                have e : (⟨(pcode n).toArray⟩ : ByteArray) = ⟨#[UInt8.ofNat ((95 + ((lst (by32 n)).size : Int)).toNat)]⟩ ++ lst (by32 n) := by
                  apply bl_inj
                  show pcode n = bl _
                  have h2 : bl (⟨#[UInt8.ofNat ((95 + ((lst (by32 n)).size : Int)).toNat)]⟩ ++ lst (by32 n)) = UInt8.ofNat ((95 + ((lst (by32 n)).size : Int)).toNat) :: bl (lst (by32 n)) := by
                    show (ByteArray.data _).toList = _
                    rw [ByteArray.data_append, Array.toList_append]
                    rfl
                  rw [h2, HL3.out]
                  unfold pcode pcs
                  rw [← HL3.out]
                  congr 2
                show Value.tuple #[.string ⟨(pcode n).toArray⟩, _, _, _] = _
                rw [e]
                rfl
              clear HF HL3
              generalize lst (by32 n) = t at *
              have hcv := cvt1 (95 + (t.size : Int))
              generalize UInt8.ofNat ((95 + (t.size : Int)).toNat) = bb at hcv HF2
              go_wp2
              refine bodyPost_ret (v := laidV (itm s)) ?_ rfl ⟨rfl, bal HB2.out _⟩
              rw [HF2.out]
              simp [results, Tryd.results12, go_sem]
            · have HF : Hid (laidV (itm s) = .tuple #[.string ⟨#[]⟩, .string ⟨#[]⟩, .string ⟨#[]⟩, .int .i64 2]) := by
                show _ = _
                rw [HI.out, itN_none hnd, hr]
                rfl
              clear hr hnd
              go_wp2
              refine bodyPost_ret (v := laidV (itm s)) ?_ rfl ⟨rfl, bal HB.out _⟩
              rw [HF.out]
              simp [results, Tryd.results12, go_sem]
      · have hA2 := hA
        rw [isA_eq s h0, Bool.and_eq_true, decide_eq_true_eq] at hA2
        obtain ⟨hb, hn⟩ := hA2
        have HI : Hid (laidV (itm s) = .tuple #[.string ⟨#[97, 0, 0]⟩, .string ⟨#[]⟩, .string (s.extract 1 s.size), .int .i64 0]) := by
          show _ = _
          unfold itm
          rw [hL.out, hA, cut_att (by rw [pf_att s h0, hb]; rfl)]
          rfl
        have HN : Hid (∀ w, Calls Tryd.prog 18 #[.string (s.extract 1 s.size)] w fun e w' => e = .returned (.bool true) ∧ w' = w) := fun w => by
          have h := risName_any (s.extract 1 s.size) (by rw [ByteArray.size_extract]; omega) w
          rw [hn] at h
          exact h
        have hcv := cvt3d 97 0 0
        have h1t : 1 ≤ s.size := h0
        rw [hb] at hx
        clear hb hn hA
        go_wp2_with fail
        refine (HN.out _).mono ?_
        rintro e w' ⟨rfl, rfl⟩
        go_wp2
        go_region
        all_goals (try go_wp2)
        all_goals refine bodyPost_ret (v := laidV (itm s)) ?_ rfl ⟨rfl, HW2.out ▸ (bal (Below.refl _ _) _).drew⟩
        all_goals rw [HI.out]
        all_goals simp [results, Tryd.results12, go_sem]
/-- AN ITEM's BYTES, THE DOCUMENT's WAY. -/
theorem laid_any (s : ByteArray) (hs : s.size ≤ 2000) (h0 : 0 < s.size) (w : World) : Calls Tryd.prog 12 #[.string s] w fun e w' => e = .returned (laidV (itm s)) ∧ Below w.heap.size w w' := by
  cases hL : isL s
  · exact laid_rest s hs h0 hL w
  · have h := hL
    rw [isL_eq s h0, Bool.and_eq_true, Bool.and_eq_true, decide_eq_true_eq, decide_eq_true_eq] at h
    exact laid_label s hs h.1.1 h.1.2 h.2 w
end cin
end Go.Proofs.YtohoajjdoihekaaDoor
