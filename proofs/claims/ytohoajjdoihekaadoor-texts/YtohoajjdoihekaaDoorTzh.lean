/-
  A text into code, the program's way.
-/
import Derived.Test.YtohoajjdoihekaaDoorTzg
set_option linter.unusedVariables false
set_option linter.unusedSimpArgs false
namespace Go.Proofs.YtohoajjdoihekaaDoor
open Go.RowKit Go.Lib Go.Maps
namespace cin
theorem str_of (c : List UInt8) : strOfNums (c.map fun b => ((b.toNat : Nat) : Int)) = ⟨c.toArray⟩ := by
  unfold strOfNums
  rw [List.map_map]
  congr 2
  conv => rhs; rw [← List.map_id c]
  refine List.map_congr_left fun b _ => ?_
  show UInt8.ofNat ((b.toNat : Int).toNat) = b
  rw [Int.toNat_natCast]
  exact UInt8.ofNat_toNat
theorem cvt_bys {x : World} {base g cap : Nat} {c : List UInt8} (h : Bys x base (.slice (some ⟨g, 0, none⟩) c.length cap) c) : (convert 32 9 (.slice (some ⟨g, 0, none⟩) c.length cap)).run Tryd.prog x = .ok (.string ⟨c.toArray⟩) x := by
  have h2 := run_convert_bytes_arg (P := Tryd.prog) x 32 5 (by kernel_rfl) (by kernel_rfl) g 0 c.length cap (c.map fun b => ((b.toNat : Nat) : Int)) (by rw [List.length_map]) (fun i hi => by
    have h3 := World.ownsRow.cellAt h i (by omega)
    rw [List.getElem?_map, List.getElem?_eq_getElem hi] at h3
    rw [Nat.zero_add, h3, List.getD_eq_getElem?_getD, List.getElem?_map, List.getElem?_eq_getElem hi]
    rfl) 9 (by kernel_rfl)
  rw [str_of] at h2
  exact h2
theorem cvt_nil (x : World) : (convert 32 9 (.slice none 0 0)).run Tryd.prog x = .ok (.string ⟨#[]⟩) x := run_convert_bytes_nil (P := Tryd.prog) x 32 5 (by kernel_rfl) (by kernel_rfl) 0 0 9 (by kernel_rfl)
theorem cwt_ne {f : ByteArray → Option Nat} {y : Ri} (h : Oky y) (hne : y.i.fl = 0 → y.i.cd ≠ []) (hf : flt f y = 0) : 0 < (cwt f y).length := by
  rw [cwt_len h]
  have h0 : y.i.fl = 0 := by
    unfold flt at hf
    by_cases e : y.i.fl = 0
    · exact e
    · rw [if_pos e] at hf; exact hf
  exact Nat.pos_of_ne_zero fun h => hne h0 (List.length_eq_zero_iff.1 h)
theorem flt_le {f : ByteArray → Option Nat} {y : Ri} (h : Oky y) : flt f y ≤ 4 := by
  have h2 := h.2.2.2.1
  unfold flt
  split
  · exact h2
  · split
    · omega
    · split <;> omega
set_option maxRecDepth 100000 in
set_option maxHeartbeats 8000000 in
theorem pAssemble_any (s : ByteArray) (w : World) : Calls Tryd.prog 4 #[.string s] w fun e w' => e = .returned (asmV s) ∧ Below w.heap.size w w' := by
  obtain ⟨i0, hi0, hz0, hz1, hz2⟩ := info_parts info_u8
  have HI := hid_of (And.intro hi0 (And.intro hz0 (And.intro hz1 hz2)))
  clear hi0 hz0 hz1 hz2
  by_cases hs : 2000 < s.size
  · have HR := hid_of (asm_long hs)
    have hd : decide ((2000 : Int) < (s.size : Int)) = true := decide_eq_true (by omega)
    go_enter Tryd.func4, Tryd.ntmps4
    go_wp2
    refine bodyPost_ret (v := asmV s) ?_ rfl ⟨rfl, Below.refl _ _⟩
    unfold asmV
    rw [HR.out]
    simp [results, Tryd.results4, go_sem]
  · have hsz : s.size ≤ 2000 := by omega
    have HCR := hid_of (countRunes_any s hsz)
    have hd : decide ((2000 : Int) < (s.size : Int)) = false := decide_eq_false (by omega)
    cases hc : (cnt s).2
    · have HR := hid_of (asm_torn hsz hc)
      rw [hc] at HCR
      go_enter Tryd.func4, Tryd.ntmps4
      go_wp2_with fail
      refine (HCR.out _).mono ?_
      rintro e w1 ⟨rfl, hb1⟩
      go_wp2
      refine bodyPost_ret (v := asmV s) ?_ rfl ⟨rfl, hb1⟩
      unfold asmV
      rw [HR.out]
      simp [results, Tryd.results4, go_sem]
    · have hwh : Hid (Whole s) := whole_cnt hc
      have HFAULT := hid_of (fun (e a : Nat) hr => asm_fault hsz hc (e := e) (a := a) hr)
      have HBIG := hid_of (fun (c : List UInt8) hr hb => asm_big hsz hc (c := c) hr hb)
      have HCODE := hid_of (fun (c : List UInt8) hr hb => asm_code hsz hc (c := c) hr hb)
      have HOK := hid_of (fun y => @rl_ok s hsz hwh.out y)
      have HLB := hid_of (labs_le hsz hwh.out)
      have HRD := hid_of (readItems_any s hsz hwh)
      have HLP := hid_of (fun l h => @okl_of s hsz hwh.out l h)
      rw [hc] at HCR
      clear hc
      go_enter Tryd.func4, Tryd.ntmps4
      go_wp2_with fail
      refine (HCR.out _).mono ?_
      rintro e w1 ⟨rfl, hb1⟩
      obtain ⟨rc, HRC⟩ : ∃ rc, Hid (rc = (cnt s).1) := ⟨_, rfl⟩
      rw [← HRC.out] at HBIG ⊢
      have hrc : rc ≤ 2000 := by rw [HRC.out]; exact Nat.le_trans (cnt_le s) hsz
      go_wp2_with fail
      refine (HRD.out _).mono ?_
      rintro e w2 ⟨v, l, rfl, hir, hmp, hb2⟩
      have hokl := hid_of (HLP.out l hmp)
      have HIR := hid_of hir
      have HMP := hid_of hmp
      have HB2 := hid_of (bcall hb1 hb2)
      have HSZ : Hid (w1.heap.size ≤ w2.heap.size) := hb2.size
      obtain ⟨adl, cpl, hshl⟩ := own_sl hir.ow
      subst hshl
      clear HRD HCR HLP hir hmp hb2 hb1
      go_wp2_with fail
      refine (labelPlaces_any l _ _ hokl _ HIR.out).mono ?_
      rintro e w3 ⟨rfl, hml, hb3⟩
      have HML : Hid (MapL w3 w2.heap.size l.length (labs s)) := hml.congr fun t => by unfold labs; rw [HMP.out]
      have HB3 := hid_of hb3
      have hll := hokl.out.1
      clear hml hb3
      rcases HIR.out.ow.2 with ⟨hv, hn⟩ | ⟨g, cap, cur, hv, _⟩
      · have HE : Hid (asm s = (⟨#[]⟩, 0, 0)) := HCODE.out [] (by rw [← HMP.out, List.length_eq_zero_iff.1 hn]; rfl) (by decide)
        have hcv := cvt_nil w3
        injection hv with h1 h2 h3
        subst h1 h3
        rw [hn]
        clear HMP HIR hokl HML HOK HLB HFAULT HBIG HCODE hn h2 hll
        go_wp2
        go_loopw [9, 30] (fun t9 t30 wr => t9 = .slice none 0 0 ∧ t30 = .int .i64 0 ∧ Hid (wr = w3)) (fun _ _ _ => 0)
        case atStart => exact ⟨rfl, rfl, rfl⟩
        case round =>
          obtain ⟨rfl, rfl, HW⟩ := hrel
          have hcv2 := cvt_nil wr
          go_wp2
          refine bodyPost_ret (v := asmV s) ?_ rfl ⟨rfl, by rw [HW.out]; exact bcall HB2.out HB3.out⟩
          unfold asmV
          rw [HE.out]
          simp [results, Tryd.results4, go_sem]
      · injection hv with h1 h2 h3
        subst h1 h3
        clear h2
        go_wp2
        go_loopw [9, 30] (fun t9 t30 wr => ∃ (j : Nat) (c : List UInt8), t30 = .int .i64 (j : Int) ∧ Bys wr w3.heap.size t9 c ∧ Below w3.heap.size w3 wr ∧ c.length ≤ 33 * j ∧ j ≤ l.length ∧ Hid (rn2 (labs s) ((l.map Prod.fst).drop j) c = rn2 (labs s) (rlist s) [])) (fun _ t30 _ => l.length - (intOf t30).toNat)
        case atStart => exact ⟨0, [], rfl, World.ownsRow_nil _ _ _ _, Below.refl _ _, by show 0 ≤ _; omega, by omega, by show _ = _; rw [HMP.out]; rfl⟩
        case round =>
          obtain ⟨j, c, rfl, hby, hbe, hcl, hj, HR⟩ := hrel
          by_cases hlt : j < l.length
          · obtain ⟨y, HY⟩ : ∃ y : Ri × Value, Hid (y = l[j]) := ⟨l[j], hid_of rfl⟩
            have hmem : y ∈ l := by rw [HY.out]; exact List.getElem_mem hlt
            have hmr : y.1 ∈ rlist s := by rw [← HMP.out]; exact List.mem_map_of_mem hmem
            have HY2 : Hid (y.1 = (l.map Prod.fst)[j]'(by rw [List.length_map]; exact hlt)) := by show _ = _; rw [List.getElem_map, ← HY.out]
            obtain ⟨hoky, hne, hale⟩ := HOK.out y.1 hmr
            have HOY := hid_of hoky
            have hir2 := (HIR.out.call HB3.out).call hbe
            have hml2 := HML.out.below hbe
            obtain ⟨c0, c1, c2, c3, c4, c5⟩ := item_cells hir2 hlt HY.out
            have hcd2 := hir2.cd y hmem
            obtain ⟨ad, cp, hsh⟩ := own_sl hcd2
            rw [hsh] at c2 hcd2
            have hal := bal (Below.refl _ wr) (.cells #[.int .i64 (y.1.i.k : Int), .string y.1.i.nm, .slice ad y.1.i.cd.length cp, .int .i64 (y.1.i.fl : Int), .int .i64 (y.1.a : Int), .int .i64 (y.1.p : Int)] 35)
            have HFA := hid_of (faultAmong_any y.1 ad y.1.i.cd.length cp (labs s) _ _ HOY (fun hk => lkp_label hmr hk) _ (hml2.below hal))
            unfold itY at HFA
            have HROW : Hid ((wr.alloc (.cells #[.int .i64 (y.1.i.k : Int), .string y.1.i.nm, .slice ad y.1.i.cd.length cp, .int .i64 (y.1.i.fl : Int), .int .i64 (y.1.a : Int), .int .i64 (y.1.p : Int)] 35)).rowIs wr.heap.size 35 6 (six (.int .i64 (y.1.i.k : Int)) (.string y.1.i.nm) (.slice ad y.1.i.cd.length cp) (.int .i64 (y.1.i.fl : Int)) (.int .i64 (y.1.a : Int)) (.int .i64 (y.1.p : Int)))) := row_lit6 _ _ _ _ _ _ rfl
            have HBE := hid_of hbe
            have HML2 := hid_of (hml2.below hal)
            have HCD2 := hid_of (ownsRow_below hcd2 hal)
            have HBY := hid_of (ownsRow_below hby hal)
            have HBE2 := hid_of (bcall hbe hal)
            have hcl33 := hoky.2.2.2.2.1
            clear hir2 hml2 hcd2 hsh hby hbe hal hmem hmr hoky HOK
            go_wp2_with fail
            refine (HFA.out).mono ?_
            rintro e w4 ⟨rfl, hb4⟩
            have hrow4 := row_below HROW.out hb4
            obtain ⟨d0, d1, d2, d3, d4, d5⟩ := row_cells6 hrow4
            have HBE4 := hid_of (bcall HBE2.out hb4)
            have HROW4 := hid_of hrow4
            by_cases hf : flt (labs s) y.1 = 0
            · have HCW := hid_of (codeWith_any y.1 ad y.1.i.cd.length cp (labs s) _ _ _ HOY (fun q hq => HLB.out _ q hq) _ (HML2.out.below hb4) (ownsRow_below HCD2.out hb4) (by have := HBE4.out.size; have := HB3.out.size; have := HSZ.out; omega))
              have HST := hid_of (rn2_step (f := labs s) (by rw [List.length_map]; exact hlt) HY2.out hf HR.out)
              have HBY4 := hid_of (ownsRow_below HBY.out hb4)
              unfold itY at HCW
              rw [hf]
              have hcw0 := cwt_ne HOY.out hne hf
              have hcwl : (cwt (labs s) y.1).length ≤ 33 := by rw [cwt_len (f := labs s) HOY.out]; exact hcl33
              obtain ⟨cw, HCE⟩ : ∃ cw, Hid (cw = cwt (labs s) y.1) := ⟨_, rfl⟩
              rw [← HCE.out] at hcw0 hcwl HCW HST
              clear hf hb4 hrow4 HFA HROW4 HROW HCE
              go_wp2_with fail
              refine (HCW.out).mono ?_
              rintro e w5 ⟨v5, rfl, hby5, hb5⟩
              have HBY5 := hid_of (ownsRow_below HBY4.out hb5)
              have HBE5 := hid_of (bcall HBE4.out hb5)
              obtain ⟨g5, cap5, e5, _, _, _⟩ := own_shape hby5 (by omega)
              subst e5
              have HSRC := hid_of (World.ownsRow.cells hby5 (g := g5) rfl)
              clear hby5 hb5 HCW HBY4 HBY HBE2 HBE4 HBE HCD2 HML2
              go_wp2_with (at_builtin; obtain ⟨hi0, hz0, hz1, hz2⟩ := HI.out; refine wpList_append_own _ rfl _ _ 32 rfl w3.heap.size 5 i0 (.int .u8 0) 1 1 (by kernel_rfl) hi0 hz0 hz1 hz2 rfl (by decide) _ _ _ rfl HBY5.out ⟨g5, 0, none⟩ cw.length cap5 (cw.map u8v) rfl (by rw [List.length_map, Nat.mul_one]) HSRC.out (by intro u hu; obtain ⟨b, _, rfl⟩ := List.mem_map.1 hu; rfl) (by unfold maxLen; omega) (by omega) HBE5.out.size ?_; intro v6 w6 ho6 hgr _; obtain ⟨g', cap', rfl, hg1', hg2', hg3'⟩ := own_shape ho6 (by omega); have HGR := hid_of hgr; have HO6 := hid_of ho6; clear hgr ho6 hi0 hz0 hz1 hz2 hg1' hg2' hg3')
              go_roundw
              case rel => exact ⟨j + 1, c ++ cw, by go_num, by show World.ownsRow _ _ _ _ _ _ _; rw [List.length_append, List.map_append]; exact HO6.out, HBE5.out.grown HGR.out HBE5.out.size (own_low0 HBY5.out), by rw [List.length_append]; omega, by omega, HST⟩
              case measure => simp [intOf]; omega
            · have HE : Hid (asm s = (⟨#[]⟩, flt (labs s) y.1, y.1.a)) := HFAULT.out _ _ (rn2_bad (f := labs s) (by rw [List.length_map]; exact hlt) HY2.out hf HR.out)
              have HBX : Hid (Below w.heap.size w w4) := bcall (bcall HB2.out HB3.out) HBE4.out
              have hfd : ((flt (labs s) y.1 : Int) != 0) = true := by simp; omega
              have hfl : flt (labs s) y.1 ≤ 4 := flt_le HOY.out
              generalize flt (labs s) y.1 = fe at *
              clear hf hb4 hrow4 HFA HROW4 HROW HBE4
              go_wp2
              go_region
              all_goals (try go_wp2)
              all_goals refine bodyPost_ret (v := asmV s) ?_ rfl ⟨rfl, HBX.out.drew⟩
              all_goals unfold asmV
              all_goals rw [HE.out]
              all_goals simp [results, Tryd.results4, go_sem]
          · have HE : Hid (rn2 (labs s) (rlist s) [] = .inl c) := by show _ = _; rw [← HR.out, List.drop_of_length_le (by rw [List.length_map]; omega)]; rfl
            have HBX : Hid (Below w.heap.size w wr) := bcall (bcall HB2.out HB3.out) hbe
            by_cases hbig : 1000 < c.length
            · have HA := hid_of (HBIG.out c HE.out hbig)
              obtain ⟨g9, cap9, e9, _, _, _⟩ := own_shape hby (by omega)
              subst e9
              have hdb : decide ((1000 : Int) < (c.length : Int)) = true := decide_eq_true (by omega)
              clear hby hbe
              go_wp2
              refine bodyPost_ret (v := asmV s) ?_ rfl ⟨rfl, HBX.out⟩
              unfold asmV
              rw [HA.out]
              simp [results, Tryd.results4, go_sem]
            · have HA := hid_of (HCODE.out c HE.out hbig)
              have hdb : decide ((1000 : Int) < (c.length : Int)) = false := decide_eq_false (by omega)
              rcases hby.2 with ⟨e9, hn9⟩ | ⟨g9, cap9, cur9, e9, _⟩
              · have e10 : c = [] := List.length_eq_zero_iff.1 hn9
                subst e9 e10
                have hcv := cvt_nil wr
                clear hby hbe
                go_wp2
                refine bodyPost_ret (v := asmV s) ?_ rfl ⟨rfl, HBX.out⟩
                unfold asmV
                rw [HA.out]
                simp [results, Tryd.results4, go_sem]
              · subst e9
                have hcv := cvt_bys hby
                clear hby hbe
                go_wp2
                refine bodyPost_ret (v := asmV s) ?_ rfl ⟨rfl, HBX.out⟩
                unfold asmV
                rw [HA.out]
                simp [results, Tryd.results4, go_sem]
end cin
end Go.Proofs.YtohoajjdoihekaaDoor
