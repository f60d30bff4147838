import Derived.Test.YtohoajjdoihekaaGreatDoorVe
import Derived.Deep.CutRange
set_option linter.unusedVariables false
set_option linter.unusedSimpArgs false
namespace Go.Proofs.YtohoajjdoihekaaGreatDoor
namespace cin
section
open Go.RowKit Go.Lib Go.Maps
theorem str_of (c : List UInt8) : strOfNums (c.map fun b => ((b.toNat : Nat) : Int)) = ⟨c.toArray⟩ := by
 unfold strOfNums
 rw [List.map_map]
 congr 2
 conv => rhs; rw [← List.map_id c]
 refine List.map_congr_left fun b _ => ?_
 show UInt8.ofNat ((b.toNat : Int).toNat) = b
 rw [Int.toNat_natCast]
 exact UInt8.ofNat_toNat
theorem cvt_bys {x : World} {base g cap : Nat} {c : List UInt8} (h : Bys x base (.slice (some ⟨g, 0, none⟩) c.length cap) c) : (convert 26 9 (.slice (some ⟨g, 0, none⟩) c.length cap)).run Tryz.prog x = .ok (.string ⟨c.toArray⟩) x := by
 have h2 := run_convert_bytes_arg (P := Tryz.prog) x 26 5 (by kernel_rfl) (by kernel_rfl) g 0 c.length cap (c.map fun b => ((b.toNat : Nat) : Int)) (by rw [List.length_map]) (fun i hi => by
  have h3 := World.ownsRow.cellAt h i (by omega)
  rw [List.getElem?_map, List.getElem?_eq_getElem hi] at h3
  rw [Nat.zero_add, h3, List.getD_eq_getElem?_getD, List.getElem?_map, List.getElem?_eq_getElem hi]
  rfl) 9 (by kernel_rfl)
 rw [str_of] at h2
 exact h2
theorem cvt_nil (x : World) : (convert 26 9 (.slice none 0 0)).run Tryz.prog x = .ok (.string ⟨#[]⟩) x := run_convert_bytes_nil (P := Tryz.prog) x 26 5 (by kernel_rfl) (by kernel_rfl) 0 0 9 (by kernel_rfl)
theorem cwt_ne {f : ByteArray → Option Nat} {y : Ri} (h : Oky y) (hne : y.i.fl = 0 → y.i.cd ≠ []) (hf : flt f y = 0) : 0 < (cwt f y).length := by
 rw [cwt_len h]
 have h0 : y.i.fl = 0 := by
  unfold flt at hf
  by_cases e : y.i.fl = 0
  ·exact e
  ·rw [if_pos e] at hf; exact hf
 exact Nat.pos_of_ne_zero fun h => hne h0 (List.length_eq_zero_iff.1 h)
theorem flt_le {f : ByteArray → Option Nat} {y : Ri} (h : Oky y) : flt f y ≤ 4 := by
 have h2 := h.2.2.2.1
 unfold flt
 split
 ·exact h2
 ·split
  ·omega
  ·split <;> omega
set_option maxRecDepth 100000 in
set_option maxHeartbeats 8000000 in
theorem pAssemble_any (s : ByteArray) (w : World) : Calls Tryz.prog 28 #[.string s] w fun e w' => e = .returned (asmV s) ∧ Below w.heap.size w w' := by
 obtain ⟨i0, hi0, hz0, hz1, hz2⟩ := info_parts info_u8
 have HI := hid_of (And.intro hi0 (And.intro hz0 (And.intro hz1 hz2)))
 clear hi0 hz0 hz1 hz2
 by_cases hs : 2000 < s.size
 ·have HR := hid_of (asm_long hs)
  have hd : decide ((2000 : Int) < (s.size : Int)) = true := decide_eq_true (by omega)
  go_enter Tryz.func28, Tryz.ntmps28
  go_wp2
  refine bodyPost_ret (v := asmV s) ?_ rfl ⟨rfl, Below.refl _ _⟩
  unfold asmV
  rw [HR.out]
  simp [results, Tryz.results28, go_sem]
 ·have hsz : s.size ≤ 2000 := by omega
  have HCR := hid_of (countRunes_any s hsz)
  have hd : decide ((2000 : Int) < (s.size : Int)) = false := decide_eq_false (by omega)
  cases hc : (cnt s).2
  ·have HR := hid_of (asm_torn hsz hc)
   rw [hc] at HCR
   go_enter Tryz.func28, Tryz.ntmps28
   go_wp2_with fail
   refine (HCR.out _).mono ?_
   rintro e w1 ⟨rfl, hb1⟩
   go_wp2
   refine bodyPost_ret (v := asmV s) ?_ rfl ⟨rfl, hb1⟩
   unfold asmV
   rw [HR.out]
   simp [results, Tryz.results28, go_sem]
  ·have hwh : Hid (Whole s) := whole_cnt hc
   have HFAULT := hid_of (fun (e a : Nat) hr => asm_fault hsz hc (e := e) (a := a) hr)
   have HBIG := hid_of (fun (c : List UInt8) hr hb => asm_big hsz hc (c := c) hr hb)
   have HCODE := hid_of (fun (c : List UInt8) hr hb => asm_code hsz hc (c := c) hr hb)
   have HOK := hid_of (fun y => @rl_ok s hsz hwh.out y)
   have HLB := hid_of (labs_le hsz hwh.out)
   have HRD := hid_of (readItems_any s hsz hwh)
   have HLP := hid_of (fun l h => @okl_of s hsz hwh.out l h)
   rw [hc] at HCR
   clear hc
   go_enter Tryz.func28, Tryz.ntmps28
   go_wp2_with fail
   refine (HCR.out _).mono ?_
   rintro e w1 ⟨rfl, hb1⟩
   obtain ⟨rc, HRC⟩ : ∃ rc, Hid (rc = (cnt s).1) := ⟨_, rfl⟩
   rw [← HRC.out] at HBIG ⊢
   have hrc : rc ≤ 2000 := by rw [HRC.out]; exact Nat.le_trans (cnt_le s) hsz
   go_wp2_with fail
   refine (HRD.out _).mono ?_
   rintro e w2 ⟨v, l, rfl, hir, hmp, hb2⟩
   have hokl := hid_of (HLP.out l hmp)
   have HIR := hid_of hir
   have HMP := hid_of hmp
   have HB2 := hid_of (bcall hb1 hb2)
   have HSZ : Hid (w1.heap.size ≤ w2.heap.size) := hb2.size
   obtain ⟨adl, cpl, hshl⟩ := own_sl hir.ow
   subst hshl
   clear HRD HCR HLP hir hmp hb2 hb1
   go_wp2_with fail
   refine (labelPlaces_any l _ _ hokl _ HIR.out).mono ?_
   rintro e w3 ⟨rfl, hml, hb3⟩
   have HML : Hid (MapL w3 w2.heap.size l.length (labs s)) := hml.congr fun t => by unfold labs; rw [HMP.out]
   have HB3 := hid_of hb3
   have hll := hokl.out.1
   clear hml hb3
   rcases HIR.out.ow.2 with ⟨hv, hn⟩ | ⟨g, cap, cur, hv, _⟩
   ·have HE : Hid (asm s = (⟨#[]⟩, 0, 0)) := HCODE.out [] (by rw [← HMP.out, List.length_eq_zero_iff.1 hn]; rfl) (by decide)
    have hcv := cvt_nil w3
    injection hv with h1 h2 h3
    subst h1 h3
    rw [hn]
    clear HMP HIR hokl HML HOK HLB HFAULT HBIG HCODE hn h2 hll
    go_wp2
    go_loopw [9, 30] (fun t9 t30 wr => t9 = .slice none 0 0 ∧ t30 = .int .i64 0 ∧ Hid (wr = w3)) (fun _ _ _ => 0)
    case atStart => exact ⟨rfl, rfl, rfl⟩
    case round =>
     obtain ⟨rfl, rfl, HW⟩ := hrel
     have hcv2 := cvt_nil wr
     go_wp2
     refine bodyPost_ret (v := asmV s) ?_ rfl ⟨rfl, by rw [HW.out]; exact bcall HB2.out HB3.out⟩
     unfold asmV
     rw [HE.out]
     simp [results, Tryz.results28, go_sem]
   ·injection hv with h1 h2 h3
    subst h1 h3
    clear h2
    go_wp2
    go_loopw [9, 30] (fun t9 t30 wr => ∃ (j : Nat) (c : List UInt8), t30 = .int .i64 (j : Int) ∧ Bys wr w3.heap.size t9 c ∧ Below w3.heap.size w3 wr ∧ c.length ≤ 33 * j ∧ j ≤ l.length ∧ Hid (rn2 (labs s) ((l.map Prod.fst).drop j) c = rn2 (labs s) (rlist s) [])) (fun _ t30 _ => l.length - (intOf t30).toNat)
    case atStart => exact ⟨0, [], rfl, World.ownsRow_nil _ _ _ _, Below.refl _ _, by show 0 ≤ _; omega, by omega, by show _ = _; rw [HMP.out]; rfl⟩
    case round =>
     obtain ⟨j, c, rfl, hby, hbe, hcl, hj, HR⟩ := hrel
     by_cases hlt : j < l.length
     ·obtain ⟨y, HY⟩ : ∃ y : Ri × Value, Hid (y = l[j]) := ⟨l[j], hid_of rfl⟩
      have hmem : y ∈ l := by rw [HY.out]; exact List.getElem_mem hlt
      have hmr : y.1 ∈ rlist s := by rw [← HMP.out]; exact List.mem_map_of_mem hmem
      have HY2 : Hid (y.1 = (l.map Prod.fst)[j]'(by rw [List.length_map]; exact hlt)) := by show _ = _; rw [List.getElem_map, ← HY.out]
      obtain ⟨hoky, hne, hale⟩ := HOK.out y.1 hmr
      have HOY := hid_of hoky
      have hir2 := (HIR.out.call HB3.out).call hbe
      have hml2 := HML.out.below hbe
      obtain ⟨c0, c1, c2, c3, c4, c5⟩ := item_cells hir2 hlt HY.out
      have hcd2 := hir2.cd y hmem
      obtain ⟨ad, cp, hsh⟩ := own_sl hcd2
      rw [hsh] at c2 hcd2
      have hal := bal (Below.refl _ wr) (.cells #[.int .i64 (y.1.i.k : Int), .string y.1.i.nm, .slice ad y.1.i.cd.length cp, .int .i64 (y.1.i.fl : Int), .int .i64 (y.1.a : Int), .int .i64 (y.1.p : Int)] 122)
      have HFA := hid_of (faultAmong_any y.1 ad y.1.i.cd.length cp (labs s) _ _ HOY (fun hk => lkp_label hmr hk) _ (hml2.below hal))
      unfold itY at HFA
      have HROW : Hid ((wr.alloc (.cells #[.int .i64 (y.1.i.k : Int), .string y.1.i.nm, .slice ad y.1.i.cd.length cp, .int .i64 (y.1.i.fl : Int), .int .i64 (y.1.a : Int), .int .i64 (y.1.p : Int)] 122)).rowIs wr.heap.size 122 6 (six (.int .i64 (y.1.i.k : Int)) (.string y.1.i.nm) (.slice ad y.1.i.cd.length cp) (.int .i64 (y.1.i.fl : Int)) (.int .i64 (y.1.a : Int)) (.int .i64 (y.1.p : Int)))) := row_lit6 _ _ _ _ _ _ rfl
      have HBE := hid_of hbe
      have HML2 := hid_of (hml2.below hal)
      have HCD2 := hid_of (ownsRow_below hcd2 hal)
      have HBY := hid_of (ownsRow_below hby hal)
      have HBE2 := hid_of (bcall hbe hal)
      have hcl33 := hoky.2.2.2.2.1
      clear hir2 hml2 hcd2 hsh hby hbe hal hmem hmr hoky HOK
      go_wp2_with fail
      refine (HFA.out).mono ?_
      rintro e w4 ⟨rfl, hb4⟩
      have hrow4 := row_below HROW.out hb4
      obtain ⟨d0, d1, d2, d3, d4, d5⟩ := row_cells6 hrow4
      have HBE4 := hid_of (bcall HBE2.out hb4)
      have HROW4 := hid_of hrow4
      by_cases hf : flt (labs s) y.1 = 0
      ·have HCW := hid_of (codeWith_any y.1 ad y.1.i.cd.length cp (labs s) _ _ _ HOY (fun q hq => HLB.out _ q hq) _ (HML2.out.below hb4) (ownsRow_below HCD2.out hb4) (by have := HBE4.out.size; have := HB3.out.size; have := HSZ.out; omega))
       have HST := hid_of (rn2_step (f := labs s) (by rw [List.length_map]; exact hlt) HY2.out hf HR.out)
       have HBY4 := hid_of (ownsRow_below HBY.out hb4)
       unfold itY at HCW
       rw [hf]
       have hcw0 := cwt_ne HOY.out hne hf
       have hcwl : (cwt (labs s) y.1).length ≤ 33 := by rw [cwt_len (f := labs s) HOY.out]; exact hcl33
       obtain ⟨cw, HCE⟩ : ∃ cw, Hid (cw = cwt (labs s) y.1) := ⟨_, rfl⟩
       rw [← HCE.out] at hcw0 hcwl HCW HST
       clear hf hb4 hrow4 HFA HROW4 HROW HCE
       go_wp2_with fail
       refine (HCW.out).mono ?_
       rintro e w5 ⟨v5, rfl, hby5, hb5⟩
       have HBY5 := hid_of (ownsRow_below HBY4.out hb5)
       have HBE5 := hid_of (bcall HBE4.out hb5)
       obtain ⟨g5, cap5, e5, _, _, _⟩ := own_shape hby5 (by omega)
       subst e5
       have HSRC := hid_of (World.ownsRow.cells hby5 (g := g5) rfl)
       clear hby5 hb5 HCW HBY4 HBY HBE2 HBE4 HBE HCD2 HML2
       go_wp2_with (at_builtin; obtain ⟨hi0, hz0, hz1, hz2⟩ := HI.out; refine wpList_append_own _ rfl _ _ 26 rfl w3.heap.size 5 i0 (.int .u8 0) 1 1 (by kernel_rfl) hi0 hz0 hz1 hz2 rfl (by decide) _ _ _ rfl HBY5.out ⟨g5, 0, none⟩ cw.length cap5 (cw.map u8v) rfl (by rw [List.length_map, Nat.mul_one]) HSRC.out (by intro u hu; obtain ⟨b, _, rfl⟩ := List.mem_map.1 hu; rfl) (by unfold maxLen; omega) (by omega) HBE5.out.size ?_; intro v6 w6 ho6 hgr _; obtain ⟨g', cap', rfl, hg1', hg2', hg3'⟩ := own_shape ho6 (by omega); have HGR := hid_of hgr; have HO6 := hid_of ho6; clear hgr ho6 hi0 hz0 hz1 hz2 hg1' hg2' hg3')
       go_roundw
       case rel => exact ⟨j + 1, c ++ cw, by go_num, by show World.ownsRow _ _ _ _ _ _ _; rw [List.length_append, List.map_append]; exact HO6.out, HBE5.out.grown HGR.out HBE5.out.size (own_low0 HBY5.out), by rw [List.length_append]; omega, by omega, HST⟩
       case measure => simp [intOf]; omega
      ·have HE : Hid (asm s = (⟨#[]⟩, flt (labs s) y.1, y.1.a)) := HFAULT.out _ _ (rn2_bad (f := labs s) (by rw [List.length_map]; exact hlt) HY2.out hf HR.out)
       have HBX : Hid (Below w.heap.size w w4) := bcall (bcall HB2.out HB3.out) HBE4.out
       have hfd : ((flt (labs s) y.1 : Int) != 0) = true := by simp; omega
       have hfl : flt (labs s) y.1 ≤ 4 := flt_le HOY.out
       generalize flt (labs s) y.1 = fe at *
       clear hf hb4 hrow4 HFA HROW4 HROW HBE4
       go_wp2
       go_region
       all_goals (try go_wp2)
       all_goals refine bodyPost_ret (v := asmV s) ?_ rfl ⟨rfl, HBX.out.drew⟩
       all_goals unfold asmV
       all_goals rw [HE.out]
       all_goals simp [results, Tryz.results28, go_sem]
     ·have HE : Hid (rn2 (labs s) (rlist s) [] = .inl c) := by show _ = _; rw [← HR.out, List.drop_of_length_le (by rw [List.length_map]; omega)]; rfl
      have HBX : Hid (Below w.heap.size w wr) := bcall (bcall HB2.out HB3.out) hbe
      by_cases hbig : 1000 < c.length
      ·have HA := hid_of (HBIG.out c HE.out hbig)
       obtain ⟨g9, cap9, e9, _, _, _⟩ := own_shape hby (by omega)
       subst e9
       have hdb : decide ((1000 : Int) < (c.length : Int)) = true := decide_eq_true (by omega)
       clear hby hbe
       go_wp2
       refine bodyPost_ret (v := asmV s) ?_ rfl ⟨rfl, HBX.out⟩
       unfold asmV
       rw [HA.out]
       simp [results, Tryz.results28, go_sem]
      ·have HA := hid_of (HCODE.out c HE.out hbig)
       have hdb : decide ((1000 : Int) < (c.length : Int)) = false := decide_eq_false (by omega)
       rcases hby.2 with ⟨e9, hn9⟩ | ⟨g9, cap9, cur9, e9, _⟩
       ·have e10 : c = [] := List.length_eq_zero_iff.1 hn9
        subst e9 e10
        have hcv := cvt_nil wr
        clear hby hbe
        go_wp2
        refine bodyPost_ret (v := asmV s) ?_ rfl ⟨rfl, HBX.out⟩
        unfold asmV
        rw [HA.out]
        simp [results, Tryz.results28, go_sem]
       ·subst e9
        have hcv := cvt_bys hby
        clear hby hbe
        go_wp2
        refine bodyPost_ret (v := asmV s) ?_ rfl ⟨rfl, HBX.out⟩
        unfold asmV
        rw [HA.out]
        simp [results, Tryz.results28, go_sem]
end
section
open Go.RowKit
set_option maxRecDepth 100000 in
set_option maxHeartbeats 2000000 in
theorem kcode_any (s c : ByteArray) (h : asm s = (c, 0, 0)) (w : World) : Calls Tryz.prog 10 #[.string s] w fun e w' => e = .returned (.string c) ∧ Below w.heap.size w w' := by
 have HA : Hid (∀ w, Calls Tryz.prog 28 #[.string s] w fun e w' => e = .returned (.tuple #[.string c, .int .i64 0, .int .i64 0]) ∧ Below w.heap.size w w') := fun w => (pAssemble_any s w).mono fun e w' ⟨h1, h2⟩ => ⟨by rw [h1, asmV, h]; rfl, h2⟩
 clear h
 go_enter Tryz.func10, Tryz.ntmps10
 go_wp2_with fail
 refine (HA.out _).mono ?_
 rintro e w1 ⟨rfl, hb1⟩
 have HB := hid_of hb1
 clear hb1
 go_wp2
 go_ret
 exact ⟨rfl, HB.out⟩
end
section
open Go.RowKit
def horner (base : Nat) (ds : List Nat) (n : Nat) : Nat := ds.foldl (fun n d => n * base + d) n
theorem horner_ge (base : Nat) (hb : 1 ≤ base) : ∀ (ds : List Nat) (n : Nat), n ≤ horner base ds n
 | [], n => Nat.le_refl n
 | d :: r, n => by
  have h := horner_ge base hb r (n * base + d)
  have h2 : n ≤ n * base := Nat.le_mul_of_pos_right n hb
  exact Nat.le_trans (by omega) h
theorem numF_ok (s : ByteArray) (base : Nat) (hb : 1 ≤ base) : ∀ (ds : List Nat) (f p n : Nat), p + ds.length = s.size → ds.length ≤ f → (∀ i (h : i < ds.length), dgt (byt s (p + i)) = ds[i]) → (∀ d ∈ ds, d < base) → horner base ds n < M → numF s base f p n false = some (horner base ds n, false)
 | [], f, p, n, hp, _, _, _, _ => numF_end s base f p n false (by simp at hp; omega)
 | d :: r, 0, p, n, hp, hf, _, _, _ => by simp at hf
 | d :: r, f + 1, p, n, hp, hf, hd, hl, hm => by
  have h0 := hd 0 (by simp)
  simp only [Nat.add_zero, List.getElem_cons_zero] at h0
  have hd0 : d < base := hl d (by simp)
  have hge : n * base + d ≤ horner base r (n * base + d) := horner_ge base hb r _
  have hm2 : horner base r (n * base + d) < M := hm
  have hlt : n * base + d < M := by omega
  have hps : p < s.size := by simp at hp; omega
  have ih := numF_ok s base hb r f (p + 1) (n * base + d) (by simp at hp; omega) (by simp at hf; omega) (fun i hi => by
   have := hd (i + 1) (by simp; omega)
   rw [show p + 1 + i = p + (i + 1) by omega, this]
   simp) (fun e he => hl e (by simp [he])) hm2
  show (if p < s.size then (if dgt (byt s p) < base then numF s base f (p + 1) ((n * base + dgt (byt s p)) % M) (false || decide (M ≤ n * base + dgt (byt s p))) else none) else some (n, false)) = _
  rw [if_pos hps, h0, if_pos hd0, Nat.mod_eq_of_lt hlt, decide_eq_false (by omega), Bool.false_or, ih]
  rfl
def decD : Nat → Nat → List Nat
 | 0, k => [k]
 | f + 1, k => if k < 10 then [k] else decD f (k / 10) ++ [k % 10]
theorem horner_app (base : Nat) (a b : List Nat) (n : Nat) : horner base (a ++ b) n = horner base b (horner base a n) := by
 unfold horner
 rw [List.foldl_append]
theorem decD_val : ∀ f k, horner 10 (decD f k) 0 = k
 | 0, k => by simp [decD, horner]
 | f + 1, k => by
  unfold decD
  split
  ·simp [horner]
  ·rw [horner_app, decD_val f (k / 10)]
   show k / 10 * 10 + k % 10 = k
   omega
theorem decD_lt : ∀ f k, k < 10 ^ (f + 1) → ∀ d ∈ decD f k, d < 10
 | 0, k, h, d, hd => by simp [decD] at hd; subst hd; simpa using h
 | f + 1, k, h, d, hd => by
  unfold decD at hd
  split at hd
  ·simp at hd; omega
  ·rcases List.mem_append.1 hd with h1 | h1
   ·exact decD_lt f (k / 10) (by rw [Nat.pow_succ] at h; omega) d h1
   ·simp at h1; omega
theorem decF_bl : ∀ f k, bl (decF f k) = (decD f k).map fun d => UInt8.ofNat (48 + d)
 | 0, k => rfl
 | f + 1, k => by
  unfold decF decD
  split
  ·rfl
  ·rw [List.map_append, ← decF_bl f (k / 10)]
   unfold bl
   simp
end
section
open Go.RowKit
theorem dgt_dec (d : Nat) (h : d < 10) : dgt (UInt8.ofNat (48 + d)).toNat = d := by
 rw [UInt8.toNat_ofNat_of_lt' (by show _ < 256; omega)]
 unfold dgt
 rw [if_pos (by omega)]
 omega
theorem dgt_hex (d : Nat) (h : d < 16) : dgt (hexd d).toNat = d := by
 unfold hexd
 split
 ·exact dgt_dec d (by omega)
 ·rw [UInt8.toNat_ofNat_of_lt' (by show _ < 256; omega)]
  unfold dgt
  rw [if_neg (by omega), if_pos (by omega)]
  omega
theorem num_digits (s : ByteArray) (base : Nat) (hb : 1 ≤ base) (ds : List Nat) (g : Nat → UInt8) {v : Nat} (hs : bl s = ds.map g) (hg : ∀ d ∈ ds, dgt (g d).toNat = d) (hl : ∀ d ∈ ds, d < base) (hv : horner base ds 0 = v) (hm : v < M) : num s base = some (v, false) := by
 have hlen : ds.length = s.size := by
  have := congrArg List.length hs
  rw [List.length_map] at this
  exact this.symm
 have h2 := numF_ok s base hb ds s.size 0 0 (by omega) (by omega) (fun i hi => by
  rw [Nat.zero_add, byt_bl, hs, List.getD_eq_getElem?_getD, List.getElem?_map, List.getElem?_eq_getElem hi]
  exact hg _ (List.getElem_mem hi)) hl (by rw [hv]; exact hm)
 rw [hv] at h2
 exact h2
theorem num_dec (f k : Nat) (h : k < 10 ^ (f + 1)) (hm : k < M) : num (decF f k) 10 = some (k, false) := by
 have hl : (decD f k).length = (decF f k).size := by
  have := congrArg List.length (decF_bl f k)
  rw [List.length_map] at this
  exact this.symm
 have h2 := numF_ok (decF f k) 10 (by omega) (decD f k) (decF f k).size 0 0 (by omega) (by omega) (fun i hi => by
  rw [Nat.zero_add, byt_bl, decF_bl, List.getD_eq_getElem?_getD, List.getElem?_map, List.getElem?_eq_getElem hi]
  exact dgt_dec _ (decD_lt f k h _ (List.getElem_mem hi))) (decD_lt f k h) (by rw [decD_val]; exact hm)
 rw [decD_val] at h2
 exact h2
def hexD (n : Nat) : Nat → List Nat
 | 0 => []
 | k + 1 => hexD n k ++ [n / 16 ^ (63 - k) % 16]
theorem hexD_val (n : Nat) : ∀ k, k ≤ 64 → horner 16 (hexD n k) 0 = n / 16 ^ (64 - k) % 16 ^ k
 | 0, _ => by simp [hexD, horner, Nat.mod_one]
 | k + 1, h => by
  unfold hexD
  rw [horner_app, hexD_val n k (by omega)]
  show n / 16 ^ (64 - k) % 16 ^ k * 16 + n / 16 ^ (63 - k) % 16 = n / 16 ^ (64 - (k + 1)) % 16 ^ (k + 1)
  rw [show 64 - k = (63 - k) + 1 by omega, show 64 - (k + 1) = 63 - k by omega, Nat.pow_succ, ← Nat.div_div_eq_div_mul, Nat.pow_succ 16 k, Nat.mul_comm (16 ^ k) 16, Nat.mod_mul]
  omega
theorem hexD_lt (n : Nat) : ∀ k, ∀ d ∈ hexD n k, d < 16
 | 0, d, h => by simp [hexD] at h
 | k + 1, d, h => by
  unfold hexD at h
  rcases List.mem_append.1 h with h1 | h1
  ·exact hexD_lt n k d h1
  ·simp at h1
   rw [h1]
   exact Nat.mod_lt _ (by omega)
theorem hexD_len (n : Nat) : ∀ k, (hexD n k).length = k
 | 0 => rfl
 | k + 1 => by simp [hexD, hexD_len n k]
theorem hexF_bl (n : Nat) : ∀ k, bl (hexF n k) = [48, 120] ++ (hexD n k).map hexd
 | 0 => rfl
 | k + 1 => by
  unfold hexF hexD
  rw [List.map_append, ← List.append_assoc, ← hexF_bl n k]
  unfold bl
  simp
theorem hex_M : (16 : Nat) ^ 64 = M := by decide +kernel
theorem num_hex (n : Nat) (s : ByteArray) (hs : bl s = (hexD n 64).map hexd) : num s 16 = some (n % M, false) := by
 have hv : horner 16 (hexD n 64) 0 = n % M := by
  rw [hexD_val n 64 (Nat.le_refl _), hex_M, Nat.sub_self, Nat.pow_zero, Nat.div_one]
 exact num_digits s 16 (by omega) (hexD n 64) hexd hs (fun d hd => dgt_hex d (hexD_lt n 64 d hd)) (hexD_lt n 64) hv (Nat.mod_lt _ (by decide))
end
section
open Go.RowKit
set_option maxRecDepth 100000
def sgn (b : UInt8) : Prop := (48 ≤ b.toNat ∧ b.toNat ≤ 57) ∨ (97 ≤ b.toNat ∧ b.toNat ≤ 102) ∨ b.toNat = 120
def dig (b : UInt8) : Prop := 48 ≤ b.toNat ∧ b.toNat ≤ 57
theorem dec_dig (d : Nat) (h : d < 10) : dig (UInt8.ofNat (48 + d)) := by
 unfold dig
 rw [UInt8.toNat_ofNat_of_lt' (by show 48 + d < 256; omega)]
 omega
theorem hexd_sgn (d : Nat) (h : d < 16) : sgn (hexd d) := by
 unfold sgn hexd
 by_cases h1 : d < 10
 ·rw [if_pos h1, UInt8.toNat_ofNat_of_lt' (by show 48 + d < 256; omega)]; omega
 ·rw [if_neg h1, UInt8.toNat_ofNat_of_lt' (by show 87 + d < 256; omega)]; omega
theorem decD_ne (f k : Nat) : decD f k ≠ [] := by
 cases f with
 | zero => simp [decD]
 | succ f =>
  unfold decD
  split <;> simp
theorem numS_signs (n : Nat) : (∀ b ∈ bl (numS n), sgn b) ∧ (∃ d r, bl (numS n) = d :: r ∧ dig d) ∧ (numS n).size ≤ 66 := by
 unfold numS
 by_cases h : n % M < 1000000
 ·rw [if_pos h, decF_bl]
  have hl := decD_lt 6 (n % M) (by omega)
  refine ⟨fun b hb => ?_, ?_, by have := decF_size 6 (n % M); omega⟩
  ·obtain ⟨d, hd, rfl⟩ := List.mem_map.1 hb
   exact Or.inl (dec_dig d (hl d hd))
  ·cases e : decD 6 (n % M) with
   | nil => exact absurd e (decD_ne _ _)
   | cons d r => exact ⟨_, _, rfl, dec_dig d (hl d (by rw [e]; simp))⟩
 ·rw [if_neg h, hexF_bl]
  refine ⟨fun b hb => ?_, ⟨48, _, rfl, by unfold dig; decide⟩, by rw [hexF_size]; omega⟩
  rcases List.mem_append.1 hb with h1 | h1
  ·simp at h1
   rcases h1 with rfl | rfl
   ·exact Or.inl (by decide)
   ·exact Or.inr (Or.inr rfl)
  ·obtain ⟨d, hd, rfl⟩ := List.mem_map.1 h1
   exact hexd_sgn d (hexD_lt n 64 d hd)
theorem sgn_plain {l : List UInt8} (h : ∀ b ∈ l, sgn b) : Plain l := fun b hb => by
 have := h b hb
 unfold sgn at this
 refine ⟨by omega, ?_⟩
 unfold sepB
 rw [decide_eq_false_iff_not]
 omega
def capB (l : List UInt8) : Bool := decide (57 < (l.getD 0 0).toNat)
theorem cap_ne {l : List UInt8} {d : UInt8} {r : List UInt8} (h : capB l = true) (hd : dig d) : d :: r ≠ l := fun e => by
 subst e
 unfold capB at h
 have h1 := of_decide_eq_true h
 unfold dig at hd
 have : ((d :: r).getD 0 0).toNat = d.toNat := rfl
 omega
theorem lk_dig {tab : List (List UInt8 × Nat)} {d : UInt8} {r : List UInt8} (h : (tab.all fun p => capB p.1) = true) (hd : dig d) : lk tab (d :: r) = none :=
 lk_out tab _ fun p hp e => cap_ne (List.all_eq_true.1 h p hp) hd e.symm
theorem rowA_dg {l : List UInt8} : ∀ (f i : Nat), (∀ j, i ≤ j → j < i + f → l ≠ bl (dup j) ∧ l ≠ bl (swp j)) → rowA l f i = none
 | 0, _, _ => rfl
 | f + 1, i, h => by
  unfold rowA
  obtain ⟨h1, h2⟩ := h i (Nat.le_refl _) (by omega)
  rw [if_neg h1, if_neg h2]
  exact rowA_dg f (i + 1) fun j hj hj2 => h j (by omega) (by omega)
theorem rowB_dg {l : List UInt8} : ∀ (f i : Nat), (∀ j, i ≤ j → j < i + f → l ≠ bl (lgs j)) → rowB l f i = none
 | 0, _, _ => rfl
 | f + 1, i, h => by
  unfold rowB
  rw [if_neg (h i (Nat.le_refl _) (by omega))]
  exact rowB_dg f (i + 1) fun j hj hj2 => h j (by omega) (by omega)
theorem dups : ((List.range 16).all fun j => capB (bl (dup j)) && capB (bl (swp j)) && capB (bl (lgs j))) = true := by kernel_rfl
theorem dup_ne {d : UInt8} {r : List UInt8} (hd : dig d) (j : Nat) (hj : j < 16) : d :: r ≠ bl (dup j) ∧ d :: r ≠ bl (swp j) ∧ d :: r ≠ bl (lgs j) := by
 have := List.all_eq_true.1 dups j (List.mem_range.2 hj)
 simp only [Bool.and_eq_true] at this
 exact ⟨cap_ne this.1.1 hd, cap_ne this.1.2 hd, cap_ne this.2 hd⟩
theorem named_dig {s : ByteArray} {d : UInt8} {r : List UInt8} (h : bl s = d :: r) (hd : dig d) : named s = none := by
 unfold named inRow
 rw [h, lk_dig (by kernel_rfl) hd, lk_dig (by kernel_rfl) hd, lk_dig (by kernel_rfl) hd, lk_dig (by kernel_rfl) hd, rowA_dg 16 0 (fun j _ hj => ⟨(dup_ne hd j (by omega)).1, (dup_ne hd j (by omega)).2.1⟩), rowB_dg 5 0 (fun j _ hj => (dup_ne hd j (by omega)).2.2)]
 rfl
theorem isL_num (n : Nat) : isL (numS n) = false := by
 obtain ⟨h1, ⟨d, r, h2, hd⟩, _⟩ := numS_signs n
 unfold isL
 rw [sf_col]
 have hs : 1 ≤ (numS n).size := by
  have : (bl (numS n)).length = (numS n).size := rfl
  rw [← this, h2]
  simp
 have hb : byt (numS n) ((numS n).size - 1) ≠ 58 := by
  rw [byt_bl]
  have hlt : (numS n).size - 1 < (bl (numS n)).length := by rw [bl_len]; omega
  rw [List.getD_eq_getElem?_getD, List.getElem?_eq_getElem hlt]
  have := h1 _ (List.getElem_mem hlt)
  unfold sgn at this
  simp only [Option.getD_some]
  omega
 rw [decide_eq_false hb, Bool.and_false, Bool.false_and]
theorem isA_num (n : Nat) : isA (numS n) = false := by
 obtain ⟨h1, ⟨d, r, h2, hd⟩, _⟩ := numS_signs n
 unfold isA
 have hs : 0 < (numS n).size := by
  have : (bl (numS n)).length = (numS n).size := rfl
  rw [← this, h2]
  simp
 rw [pf_att _ hs]
 have hb : byt (numS n) 0 ≠ 64 := by
  rw [byt_bl, h2]
  unfold dig at hd
  show d.toNat ≠ 64
  omega
 rw [decide_eq_false hb, Bool.false_and]
theorem nres_num (n : Nat) : nres (nt (numS n)) (nb (numS n)) = some (n % M, false) := by
 have hM : n % M < M := Nat.mod_lt _ (by decide)
 unfold numS
 by_cases h : n % M < 1000000
 ·rw [if_pos h]
  have hn : nt (decF 6 (n % M)) = decF 6 (n % M) ∧ nb (decF 6 (n % M)) = 10 := by
   unfold nt nb
   have hc : (decide (2 < (decF 6 (n % M)).size) && (((decF 6 (n % M)).extract 0 2).toList == x0.toList)) = false := by
    by_cases h2 : 2 < (decF 6 (n % M)).size
    ·rw [decide_eq_true h2, Bool.true_and, beq_eq_false_iff_ne]
     intro e
     rw [Go.ByteArray.toList_eq, Go.ByteArray.toList_eq] at e
     have e2 : bl ((decF 6 (n % M)).extract 0 2) = [48, 120] := e
     rw [bl_sub, decF_bl] at e2
     have hl := decD_lt 6 (n % M) (by omega)
     cases e3 : decD 6 (n % M) with
     | nil => exact decD_ne _ _ e3
     | cons d r =>
      cases r with
      | nil =>
       rw [e3] at e2
       have := congrArg List.length e2
       simp at this
      | cons d2 r =>
       rw [e3] at e2
       simp only [List.map_cons, List.drop_zero, Nat.sub_zero, List.take_succ_cons, List.take_zero, List.cons.injEq, and_true] at e2
       have := dec_dig d2 (hl d2 (by rw [e3]; simp))
       rw [e2.2] at this
       unfold dig at this
       have h5 : (120 : UInt8).toNat = 120 := rfl
       omega
    ·rw [decide_eq_false h2, Bool.false_and]
   rw [hc]
   exact ⟨rfl, rfl⟩
  rw [hn.1, hn.2]
  unfold nres
  rw [num_dec 6 (n % M) (by omega) hM]
  have hz : (decF 6 (n % M)).size ≠ 0 := by
   have : (bl (decF 6 (n % M))).length = (decF 6 (n % M)).size := rfl
   rw [← this, decF_bl, List.length_map]
   exact fun e => decD_ne _ _ (List.eq_nil_of_length_eq_zero e)
  simp [hz]
 ·rw [if_neg h]
  have hc : (decide (2 < (hexF n 64).size) && (((hexF n 64).extract 0 2).toList == x0.toList)) = true := by
   rw [hexF_size, decide_eq_true (by omega), Bool.true_and, Go.ByteArray.toList_eq, Go.ByteArray.toList_eq, beq_iff_eq]
   show bl ((hexF n 64).extract 0 2) = [48, 120]
   rw [bl_sub, hexF_bl]
   rfl
  have hn : nt (hexF n 64) = (hexF n 64).extract 2 (hexF n 64).size ∧ nb (hexF n 64) = 16 := by
   unfold nt nb
   rw [hc]
   exact ⟨rfl, rfl⟩
  have hbl : bl ((hexF n 64).extract 2 (hexF n 64).size) = (hexD n 64).map hexd := by
   have hl : ((hexD n 64).map hexd).length = 64 := by rw [List.length_map, hexD_len]
   rw [bl_sub, hexF_bl, hexF_size]
   generalize (hexD n 64).map hexd = X at hl
   show X.take (64 + 2 - 2) = X
   rw [List.take_of_length_le (by omega)]
  rw [hn.1, hn.2]
  unfold nres
  rw [num_hex n _ hbl]
  have hz : ((hexF n 64).extract 2 (hexF n 64).size).size ≠ 0 := by
   have : (bl ((hexF n 64).extract 2 (hexF n 64).size)).length = ((hexF n 64).extract 2 (hexF n 64).size).size := rfl
   rw [← this, hbl, List.length_map, hexD_len]
   omega
  show (if _ then none else some (n % M, false)) = _
  rw [if_neg hz]
theorem itm_num (n : Nat) : itm (numS n) = ⟨0, ⟨#[]⟩, pcode (n % M), 0⟩ := by
 obtain ⟨_, ⟨d, r, h2, hd⟩, _⟩ := numS_signs n
 unfold itm
 rw [isL_num, isA_num]
 show itN (numS n) = _
 unfold itN
 rw [named_dig h2 hd, nres_num]
 rfl
end
section
open Go.RowKit
set_option maxRecDepth 100000
def nmsL : List (List UInt8) := [[65, 68, 68], [77, 85, 76], [83, 85, 66], [68, 73, 86], [83, 68, 73, 86], [77, 79, 68], [83, 77, 79, 68], [65, 68, 68, 77, 79, 68], [77, 85, 76, 77, 79, 68], [69, 88, 80], [83, 73, 71, 78, 69, 88, 84, 69, 78, 68], [76, 84], [71, 84], [83, 76, 84], [83, 71, 84], [69, 81], [73, 83, 90, 69, 82, 79], [65, 78, 68], [79, 82], [88, 79, 82], [78, 79, 84], [66, 89, 84, 69], [83, 72, 76], [83, 72, 82], [83, 65, 82]]
def opsL : List Nat := [1, 2, 3, 4, 5, 6, 7, 8, 9, 10, 11, 16, 17, 18, 19, 20, 21, 22, 23, 24, 25, 26, 27, 28, 29]
def wordsL : List UInt8 := [59, 32, 119, 111, 114, 100, 115, 10]
def tailL : List UInt8 := [32, 64, 103, 114, 195, 182, 195, 159, 101, 32, 74, 85, 77, 80, 32, 83, 84, 79, 80, 32, 103, 114, 195, 182, 195, 159, 101, 58, 32, 49, 32, 83, 83, 84, 79, 82, 69, 10, 49, 32, 83, 76, 79, 65, 68, 32, 48, 32, 77, 83, 84, 79, 82, 69, 32, 51, 50, 32, 48, 32, 82, 69, 84, 85, 82, 78]
def grL : ByteArray := ⟨#[103, 114, 195, 182, 195, 159, 101]⟩
def restL (k : Nat) : List UInt8 := wordsL ++ (nmsL.getD k [] ++ tailL)
def restS (k : Nat) : ByteArray := ⟨(restL k).toArray⟩
def itsL (op : Nat) : List It := [⟨0, ⟨#[]⟩, [UInt8.ofNat op], 0⟩, ⟨2, grL, [97, 0, 0], 0⟩, ⟨0, ⟨#[]⟩, [86], 0⟩, ⟨0, ⟨#[]⟩, [0], 0⟩, ⟨1, grL, [91], 0⟩, ⟨0, ⟨#[]⟩, [96, 1], 0⟩, ⟨0, ⟨#[]⟩, [85], 0⟩, ⟨0, ⟨#[]⟩, [96, 1], 0⟩, ⟨0, ⟨#[]⟩, [84], 0⟩, ⟨0, ⟨#[]⟩, [95], 0⟩, ⟨0, ⟨#[]⟩, [82], 0⟩, ⟨0, ⟨#[]⟩, [96, 32], 0⟩, ⟨0, ⟨#[]⟩, [95], 0⟩, ⟨0, ⟨#[]⟩, [243], 0⟩]
theorem its0 : (spl (restS 0)).map (fun x => itm x.1) = itsL 1 := by kernel_rfl
theorem cnt0 : (cnt (restS 0)).2 = true ∧ decide ((restS 0).size ≤ 200) = true := ⟨by kernel_rfl, by kernel_rfl⟩
theorem its1 : (spl (restS 1)).map (fun x => itm x.1) = itsL 2 := by kernel_rfl
theorem cnt1 : (cnt (restS 1)).2 = true ∧ decide ((restS 1).size ≤ 200) = true := ⟨by kernel_rfl, by kernel_rfl⟩
theorem its2 : (spl (restS 2)).map (fun x => itm x.1) = itsL 3 := by kernel_rfl
theorem cnt2 : (cnt (restS 2)).2 = true ∧ decide ((restS 2).size ≤ 200) = true := ⟨by kernel_rfl, by kernel_rfl⟩
theorem its3 : (spl (restS 3)).map (fun x => itm x.1) = itsL 4 := by kernel_rfl
theorem cnt3 : (cnt (restS 3)).2 = true ∧ decide ((restS 3).size ≤ 200) = true := ⟨by kernel_rfl, by kernel_rfl⟩
theorem its4 : (spl (restS 4)).map (fun x => itm x.1) = itsL 5 := by kernel_rfl
theorem cnt4 : (cnt (restS 4)).2 = true ∧ decide ((restS 4).size ≤ 200) = true := ⟨by kernel_rfl, by kernel_rfl⟩
theorem its5 : (spl (restS 5)).map (fun x => itm x.1) = itsL 6 := by kernel_rfl
theorem cnt5 : (cnt (restS 5)).2 = true ∧ decide ((restS 5).size ≤ 200) = true := ⟨by kernel_rfl, by kernel_rfl⟩
theorem its6 : (spl (restS 6)).map (fun x => itm x.1) = itsL 7 := by kernel_rfl
theorem cnt6 : (cnt (restS 6)).2 = true ∧ decide ((restS 6).size ≤ 200) = true := ⟨by kernel_rfl, by kernel_rfl⟩
theorem its7 : (spl (restS 7)).map (fun x => itm x.1) = itsL 8 := by kernel_rfl
theorem cnt7 : (cnt (restS 7)).2 = true ∧ decide ((restS 7).size ≤ 200) = true := ⟨by kernel_rfl, by kernel_rfl⟩
theorem its8 : (spl (restS 8)).map (fun x => itm x.1) = itsL 9 := by kernel_rfl
theorem cnt8 : (cnt (restS 8)).2 = true ∧ decide ((restS 8).size ≤ 200) = true := ⟨by kernel_rfl, by kernel_rfl⟩
theorem its9 : (spl (restS 9)).map (fun x => itm x.1) = itsL 10 := by kernel_rfl
theorem cnt9 : (cnt (restS 9)).2 = true ∧ decide ((restS 9).size ≤ 200) = true := ⟨by kernel_rfl, by kernel_rfl⟩
theorem its10 : (spl (restS 10)).map (fun x => itm x.1) = itsL 11 := by kernel_rfl
theorem cnt10 : (cnt (restS 10)).2 = true ∧ decide ((restS 10).size ≤ 200) = true := ⟨by kernel_rfl, by kernel_rfl⟩
theorem its11 : (spl (restS 11)).map (fun x => itm x.1) = itsL 16 := by kernel_rfl
theorem cnt11 : (cnt (restS 11)).2 = true ∧ decide ((restS 11).size ≤ 200) = true := ⟨by kernel_rfl, by kernel_rfl⟩
theorem its12 : (spl (restS 12)).map (fun x => itm x.1) = itsL 17 := by kernel_rfl
theorem cnt12 : (cnt (restS 12)).2 = true ∧ decide ((restS 12).size ≤ 200) = true := ⟨by kernel_rfl, by kernel_rfl⟩
theorem its13 : (spl (restS 13)).map (fun x => itm x.1) = itsL 18 := by kernel_rfl
theorem cnt13 : (cnt (restS 13)).2 = true ∧ decide ((restS 13).size ≤ 200) = true := ⟨by kernel_rfl, by kernel_rfl⟩
theorem its14 : (spl (restS 14)).map (fun x => itm x.1) = itsL 19 := by kernel_rfl
theorem cnt14 : (cnt (restS 14)).2 = true ∧ decide ((restS 14).size ≤ 200) = true := ⟨by kernel_rfl, by kernel_rfl⟩
theorem its15 : (spl (restS 15)).map (fun x => itm x.1) = itsL 20 := by kernel_rfl
theorem cnt15 : (cnt (restS 15)).2 = true ∧ decide ((restS 15).size ≤ 200) = true := ⟨by kernel_rfl, by kernel_rfl⟩
theorem its16 : (spl (restS 16)).map (fun x => itm x.1) = itsL 21 := by kernel_rfl
theorem cnt16 : (cnt (restS 16)).2 = true ∧ decide ((restS 16).size ≤ 200) = true := ⟨by kernel_rfl, by kernel_rfl⟩
theorem its17 : (spl (restS 17)).map (fun x => itm x.1) = itsL 22 := by kernel_rfl
theorem cnt17 : (cnt (restS 17)).2 = true ∧ decide ((restS 17).size ≤ 200) = true := ⟨by kernel_rfl, by kernel_rfl⟩
theorem its18 : (spl (restS 18)).map (fun x => itm x.1) = itsL 23 := by kernel_rfl
theorem cnt18 : (cnt (restS 18)).2 = true ∧ decide ((restS 18).size ≤ 200) = true := ⟨by kernel_rfl, by kernel_rfl⟩
theorem its19 : (spl (restS 19)).map (fun x => itm x.1) = itsL 24 := by kernel_rfl
theorem cnt19 : (cnt (restS 19)).2 = true ∧ decide ((restS 19).size ≤ 200) = true := ⟨by kernel_rfl, by kernel_rfl⟩
theorem its20 : (spl (restS 20)).map (fun x => itm x.1) = itsL 25 := by kernel_rfl
theorem cnt20 : (cnt (restS 20)).2 = true ∧ decide ((restS 20).size ≤ 200) = true := ⟨by kernel_rfl, by kernel_rfl⟩
theorem its21 : (spl (restS 21)).map (fun x => itm x.1) = itsL 26 := by kernel_rfl
theorem cnt21 : (cnt (restS 21)).2 = true ∧ decide ((restS 21).size ≤ 200) = true := ⟨by kernel_rfl, by kernel_rfl⟩
theorem its22 : (spl (restS 22)).map (fun x => itm x.1) = itsL 27 := by kernel_rfl
theorem cnt22 : (cnt (restS 22)).2 = true ∧ decide ((restS 22).size ≤ 200) = true := ⟨by kernel_rfl, by kernel_rfl⟩
theorem its23 : (spl (restS 23)).map (fun x => itm x.1) = itsL 28 := by kernel_rfl
theorem cnt23 : (cnt (restS 23)).2 = true ∧ decide ((restS 23).size ≤ 200) = true := ⟨by kernel_rfl, by kernel_rfl⟩
theorem its24 : (spl (restS 24)).map (fun x => itm x.1) = itsL 29 := by kernel_rfl
theorem cnt24 : (cnt (restS 24)).2 = true ∧ decide ((restS 24).size ≤ 200) = true := ⟨by kernel_rfl, by kernel_rfl⟩
end
section
open Go.RowKit
set_option maxRecDepth 100000
theorem its_k {k : Nat} (hk : k < 25) : (spl (restS k)).map (fun x => itm x.1) = itsL (opsL.getD k 0) ∧ (cnt (restS k)).2 = true ∧ (restS k).size ≤ 200 := by
 have e : k = 0 ∨ k = 1 ∨ k = 2 ∨ k = 3 ∨ k = 4 ∨ k = 5 ∨ k = 6 ∨ k = 7 ∨ k = 8 ∨ k = 9 ∨ k = 10 ∨ k = 11 ∨ k = 12 ∨ k = 13 ∨ k = 14 ∨ k = 15 ∨ k = 16 ∨ k = 17 ∨ k = 18 ∨ k = 19 ∨ k = 20 ∨ k = 21 ∨ k = 22 ∨ k = 23 ∨ k = 24 := by omega
 rcases e with rfl | rfl | rfl | rfl | rfl | rfl | rfl | rfl | rfl | rfl | rfl | rfl | rfl | rfl | rfl | rfl | rfl | rfl | rfl | rfl | rfl | rfl | rfl | rfl | rfl
 ·exact ⟨its0, cnt0.1, of_decide_eq_true cnt0.2⟩
 ·exact ⟨its1, cnt1.1, of_decide_eq_true cnt1.2⟩
 ·exact ⟨its2, cnt2.1, of_decide_eq_true cnt2.2⟩
 ·exact ⟨its3, cnt3.1, of_decide_eq_true cnt3.2⟩
 ·exact ⟨its4, cnt4.1, of_decide_eq_true cnt4.2⟩
 ·exact ⟨its5, cnt5.1, of_decide_eq_true cnt5.2⟩
 ·exact ⟨its6, cnt6.1, of_decide_eq_true cnt6.2⟩
 ·exact ⟨its7, cnt7.1, of_decide_eq_true cnt7.2⟩
 ·exact ⟨its8, cnt8.1, of_decide_eq_true cnt8.2⟩
 ·exact ⟨its9, cnt9.1, of_decide_eq_true cnt9.2⟩
 ·exact ⟨its10, cnt10.1, of_decide_eq_true cnt10.2⟩
 ·exact ⟨its11, cnt11.1, of_decide_eq_true cnt11.2⟩
 ·exact ⟨its12, cnt12.1, of_decide_eq_true cnt12.2⟩
 ·exact ⟨its13, cnt13.1, of_decide_eq_true cnt13.2⟩
 ·exact ⟨its14, cnt14.1, of_decide_eq_true cnt14.2⟩
 ·exact ⟨its15, cnt15.1, of_decide_eq_true cnt15.2⟩
 ·exact ⟨its16, cnt16.1, of_decide_eq_true cnt16.2⟩
 ·exact ⟨its17, cnt17.1, of_decide_eq_true cnt17.2⟩
 ·exact ⟨its18, cnt18.1, of_decide_eq_true cnt18.2⟩
 ·exact ⟨its19, cnt19.1, of_decide_eq_true cnt19.2⟩
 ·exact ⟨its20, cnt20.1, of_decide_eq_true cnt20.2⟩
 ·exact ⟨its21, cnt21.1, of_decide_eq_true cnt21.2⟩
 ·exact ⟨its22, cnt22.1, of_decide_eq_true cnt22.2⟩
 ·exact ⟨its23, cnt23.1, of_decide_eq_true cnt23.2⟩
 ·exact ⟨its24, cnt24.1, of_decide_eq_true cnt24.2⟩
theorem mk_bl (s : ByteArray) : (⟨(bl s).toArray⟩ : ByteArray) = s := rfl
theorem spl_told {s : ByteArray} {na nb' nc : Nat} {t : ByteArray} (hs : bl s = bl (numS nc) ++ (32 :: (bl (numS nb') ++ (9 :: (bl (numS na) ++ (32 :: bl t)))))) :
  ∃ k1 k2 k3, spl s = (numS nc, 0) :: (numS nb', k1) :: (numS na, k2) :: (spl t).map (fun x => (x.1, k3 + x.2)) := by
 obtain ⟨c1, ⟨dc, rc, c2, _⟩, _⟩ := numS_signs nc
 obtain ⟨b1, ⟨db, rb, b2, _⟩, _⟩ := numS_signs nb'
 obtain ⟨a1, ⟨da, ra, a2, _⟩, _⟩ := numS_signs na
 have hz : s.size = t.size + ((bl (numS na)).length + 1) + ((bl (numS nb')).length + 1) + ((bl (numS nc)).length + 1) := by
  rw [size_of_bl hs]
  simp only [List.length_append, List.length_cons]
  have : (bl t).length = t.size := rfl
  omega
 have e1 := splF_item (s := s) (l := bl (numS nc)) (pre := []) (b := 32) (suf := bl (numS nb') ++ (9 :: (bl (numS na) ++ (32 :: bl t)))) hs (by rw [c2]; simp) (sgn_plain c1) (by decide) (by decide) (by decide) (t.size + ((bl (numS na)).length + 1) + ((bl (numS nb')).length + 1)) 0
 have e2 := splF_item (s := s) (l := bl (numS nb')) (pre := bl (numS nc) ++ [32]) (b := 9) (suf := bl (numS na) ++ (32 :: bl t)) (by rw [hs]; simp) (by rw [b2]; simp) (sgn_plain b1) (by decide) (by decide) (by decide) (t.size + ((bl (numS na)).length + 1)) (0 + ((bl (numS nc)).length + 1))
 have e3 := splF_item (s := s) (l := bl (numS na)) (pre := bl (numS nc) ++ [32] ++ (bl (numS nb') ++ [9])) (b := 32) (suf := bl t) (by rw [hs]; simp) (by rw [a2]; simp) (sgn_plain a1) (by decide) (by decide) (by decide) t.size (0 + ((bl (numS nc)).length + 1) + ((bl (numS nb')).length + 1))
 have e4 := splF_shift (s := s) (t := t) (pre := bl (numS nc) ++ [32] ++ (bl (numS nb') ++ [9]) ++ (bl (numS na) ++ [32])) (by rw [hs]; simp) (0 + ((bl (numS nc)).length + 1) + ((bl (numS nb')).length + 1) + ((bl (numS na)).length + 1)) t.size 0 0 false none
 simp only [List.length_append, List.length_cons, List.length_nil, Nat.zero_add, Nat.add_zero, Option.map_none] at e1 e2 e3 e4
 refine ⟨(bl (numS nc)).length + 1, (bl (numS nc)).length + 1 + ((bl (numS nb')).length + 1), (bl (numS nc)).length + 1 + ((bl (numS nb')).length + 1) + ((bl (numS na)).length + 1), ?_⟩
 unfold spl
 rw [hz, e1, e2, e3, e4, mk_bl, mk_bl, mk_bl]
theorem cnt_told {s : ByteArray} {na nb' nc : Nat} {t : ByteArray} (hs : bl s = bl (numS nc) ++ (32 :: (bl (numS nb') ++ (9 :: (bl (numS na) ++ (32 :: bl t)))))) (ht : (cnt t).2 = true) : (cnt s).2 = true := by
 obtain ⟨c1, _⟩ := numS_signs nc
 obtain ⟨b1, _⟩ := numS_signs nb'
 obtain ⟨a1, _⟩ := numS_signs na
 have hp : ∀ {l : List UInt8}, (∀ b ∈ l, sgn b) → ∀ b ∈ l, b.toNat < 128 := fun h b hb => by
  have := h b hb
  unfold sgn at this
  omega
 obtain ⟨L, hL⟩ : ∃ L, L = bl (numS nc) ++ [32] ++ (bl (numS nb') ++ [9]) ++ (bl (numS na) ++ [32]) := ⟨_, rfl⟩
 have hs2 : bl s = [] ++ (L ++ bl t) := by rw [hs, hL]; simp
 have hall : ∀ b ∈ L, b.toNat < 128 := fun b hb => by
  rw [hL] at hb
  simp only [List.mem_append, List.mem_singleton] at hb
  rcases hb with ((h | rfl) | (h | rfl)) | (h | rfl)
  ·exact hp c1 b h
  ·decide
  ·exact hp b1 b h
  ·decide
  ·exact hp a1 b h
  ·decide
 have e := cntF_run (s := s) L [] (bl t) hs2 hall t.size 0
 have e2 := cntF_shift (s := s) (t := t) (pre := L) (by rw [hs2]; rfl) L.length t.size 0 0
 simp only [List.length_nil, Nat.zero_add, Nat.add_zero] at e e2
 have hz : s.size = t.size + L.length := by
  rw [size_of_bl hs2]
  simp only [List.nil_append, List.length_append]
  have : (bl t).length = t.size := rfl
  omega
 unfold cnt
 rw [hz, e, e2]
 exact ht
def rIt : List It → Nat → List (It × Nat)
 | [], _ => []
 | i :: r, p => (i, p) :: rIt r (p + i.cd.length)
theorem rit_its : ∀ (l : List (ByteArray × Nat)) (p : Nat), (rit l p).map (fun y => (y.i, y.p)) = rIt (l.map fun x => itm x.1) p
 | [], _ => rfl
 | x :: r, p => by
  show (itm x.1, p) :: (rit r (p + (itm x.1).cd.length)).map _ = _
  rw [rit_its r]
  rfl
theorem lkp_its (n : ByteArray) : ∀ (l : List Ri), lkp n l = ((l.map fun y => (y.i, y.p)).find? fun y => decide (y.1.k = 1 ∧ y.1.nm = n)).map fun y => y.2
 | [] => rfl
 | y :: r => by
  unfold lkp
  by_cases h : y.i.k = 1 ∧ y.i.nm = n
  ·rw [if_pos h, List.map_cons, List.find?_cons_of_pos (by simpa using h)]
   rfl
  ·rw [if_neg h, List.map_cons, List.find?_cons_of_neg (by simpa using h), lkp_its n r]
theorem rn2_its (lb : ByteArray → Option Nat) : ∀ (l : List Ri) (c : List UInt8), (∀ y ∈ l.map fun y => (y.i, y.p), flt lb ⟨y.1, 0, y.2⟩ = 0) → rn2 lb l c = .inl (c ++ (l.map fun y => (y.i, y.p)).flatMap fun y => cwt lb ⟨y.1, 0, y.2⟩)
 | [], c, _ => by simp [rn2]
 | y :: r, c, h => by
  unfold rn2
  have h1 : flt lb y = 0 := h (y.i, y.p) (by simp)
  rw [if_pos h1, rn2_its lb r _ (fun z hz => h z (by rw [List.map_cons]; exact List.mem_cons_of_mem _ hz)), List.map_cons, List.flatMap_cons, List.append_assoc]
  rfl
theorem asm_told {s : ByteArray} {na nb' nc k : Nat} (hk : k < 25) (hs : bl s = bl (numS nc) ++ (32 :: (bl (numS nb') ++ (9 :: (bl (numS na) ++ (32 :: restL k)))))) :
  asm s = (⟨(pcode (nc % M) ++ (pcode (nb' % M) ++ (pcode (na % M) ++ ([UInt8.ofNat (opsL.getD k 0), 97, UInt8.ofNat (((pcode (nc % M) ++ (pcode (nb' % M) ++ pcode (na % M))).length + 6) / 256), UInt8.ofNat (((pcode (nc % M) ++ (pcode (nb' % M) ++ pcode (na % M))).length + 6) % 256), 86, 0, 91, 96, 1, 85, 96, 1, 84, 95, 82, 96, 32, 95, 243] : List UInt8)))).toArray⟩, 0, 0) := by
 obtain ⟨h1, h2, h3⟩ := its_k hk
 have hs2 : bl s = bl (numS nc) ++ (32 :: (bl (numS nb') ++ (9 :: (bl (numS na) ++ (32 :: bl (restS k)))))) := hs
 obtain ⟨k1, k2, k3, hsp⟩ := spl_told hs2
 have hct := cnt_told hs2 h2
 obtain ⟨P, hP⟩ : ∃ P, P = (pcode (nc % M) ++ (pcode (nb' % M) ++ pcode (na % M))).length := ⟨_, rfl⟩
 have hits : (spl s).map (fun x => itm x.1) = ⟨0, ⟨#[]⟩, pcode (nc % M), 0⟩ :: ⟨0, ⟨#[]⟩, pcode (nb' % M), 0⟩ :: ⟨0, ⟨#[]⟩, pcode (na % M), 0⟩ :: itsL (opsL.getD k 0) := by
  rw [hsp, List.map_cons, List.map_cons, List.map_cons, List.map_map, itm_num, itm_num, itm_num, ← h1]
  rfl
 have hpos : (rlist s).map (fun y => (y.i, y.p)) = (⟨0, ⟨#[]⟩, pcode (nc % M), 0⟩, 0) :: (⟨0, ⟨#[]⟩, pcode (nb' % M), 0⟩, (pcode (nc % M)).length) :: (⟨0, ⟨#[]⟩, pcode (na % M), 0⟩, (pcode (nc % M)).length + (pcode (nb' % M)).length) :: rIt (itsL (opsL.getD k 0)) P := by
  unfold rlist
  rw [rit_its, hits, hP]
  simp only [rIt, List.length_append, Nat.zero_add, Nat.add_assoc]
 have hlab : labs s grL = some (P + 6) := by
  unfold labs
  rw [lkp_its, hpos]
  rw [List.find?_cons_of_neg (by simp), List.find?_cons_of_neg (by simp), List.find?_cons_of_neg (by simp)]
  rfl
 have hrn := rn2_its (labs s) (rlist s) [] (by
  rw [hpos]
  intro y hy
  simp only [List.mem_cons, itsL, rIt, List.not_mem_nil, or_false] at hy
  rcases hy with rfl | rfl | rfl | rfl | rfl | rfl | rfl | rfl | rfl | rfl | rfl | rfl | rfl | rfl | rfl | rfl | rfl
  all_goals first
   | rfl
   | (unfold flt; simp [hlab]; done))
 have hcode : rn2 (labs s) (rlist s) [] = .inl (pcode (nc % M) ++ (pcode (nb' % M) ++ (pcode (na % M) ++ [UInt8.ofNat (opsL.getD k 0), 97, UInt8.ofNat ((P + 6) / 256), UInt8.ofNat ((P + 6) % 256), 86, 0, 91, 96, 1, 85, 96, 1, 84, 95, 82, 96, 32, 95, 243]))) := by
  rw [hrn, hpos]
  simp only [List.nil_append, itsL, rIt, List.flatMap_cons, List.flatMap_nil, cwt, hlab]
  simp
 have hlc := pcode_len (nc % M)
 have hlb := pcode_len (nb' % M)
 have hla := pcode_len (na % M)
 have hsz : s.size ≤ 2000 := by
  rw [size_of_bl hs2]
  have c3 := (numS_signs nc).2.2
  have b3 := (numS_signs nb').2.2
  have a3 := (numS_signs na).2.2
  simp only [List.length_append, List.length_cons, bl_len]
  omega
 unfold asm
 rw [if_neg (by omega), hct, if_neg (by decide), hcode, ← hP]
 dsimp only
 rw [if_neg (by simp only [List.length_append, List.length_cons, List.length_nil]; omega)]
end
section
open Go.RowKit Go.Maps
set_option maxRecDepth 100000
theorem own_number : Own 9 := fun _ _ => by kernel_rfl
def PhT (w : World) : Nat → World → Prop := fun _ x => Below w.heap.size w x
section
variable {ba bb bc bn na nb' nc kk : Nat} {nm : ByteArray} {s : Act} {x : World} {K : Act → World → Prop} {Q : Exit → Act → World → Prop} {ty1 : TypeId} {po1 : String} {af1 : Array Edge} {gd1 : Option (Nat × Bool)}
theorem told_r6_o0 (e6 : s.tmps.getD 6 undef = .pointer (some ⟨bc, 0, none⟩)) (y0 : x.cell? ⟨bc, 0, none⟩ = some (.int .u64 (limb nc 0))) (y1 : x.cell? ⟨bc, 1, none⟩ = some (.int .u64 (limb nc 1))) (y2 : x.cell? ⟨bc, 2, none⟩ = some (.int .u64 (limb nc 2))) (y3 : x.cell? ⟨bc, 3, none⟩ = some (.int .u64 (limb nc 3))) (hK : K (s.put (some 28) (.agg #[.int .u64 (limb nc 0), .int .u64 (limb nc 1), .int .u64 (limb nc 2), .int .u64 (limb nc 3)])) x) :
  Oper.wp Tryz.prog ⟨some 28, .load 24 (.tmp 6), ty1, po1, af1, gd1⟩ s x K Q := by
 have f6 : s.eval (.tmp 6) = _ := e6
 go_simp
 exact hK
theorem told_r6_o2 (e29 : s.tmps.getD 29 undef = .string (numS nc)) (hz : ¬ 9223372036854775807 < (numS nc).size + 1) (hK : K (s.put (some 30) (.string (numS nc ++ ⟨#[32]⟩))) x) :
  Oper.wp Tryz.prog ⟨some 30, .binOp .add 9 (.tmp 29) (.const (.string { data := #[32] })) 9, ty1, po1, af1, gd1⟩ s x K Q := by
 have f29 : s.eval (.tmp 29) = _ := e29
 go_simp
 exact hK
theorem told_r6_o3 (e5 : s.tmps.getD 5 undef = .pointer (some ⟨bb, 0, none⟩)) (y0 : x.cell? ⟨bb, 0, none⟩ = some (.int .u64 (limb nb' 0))) (y1 : x.cell? ⟨bb, 1, none⟩ = some (.int .u64 (limb nb' 1))) (y2 : x.cell? ⟨bb, 2, none⟩ = some (.int .u64 (limb nb' 2))) (y3 : x.cell? ⟨bb, 3, none⟩ = some (.int .u64 (limb nb' 3))) (hK : K (s.put (some 31) (.agg #[.int .u64 (limb nb' 0), .int .u64 (limb nb' 1), .int .u64 (limb nb' 2), .int .u64 (limb nb' 3)])) x) :
  Oper.wp Tryz.prog ⟨some 31, .load 24 (.tmp 5), ty1, po1, af1, gd1⟩ s x K Q := by
 have f5 : s.eval (.tmp 5) = _ := e5
 go_simp
 exact hK
theorem told_r6_o5 (e30 : s.tmps.getD 30 undef = .string (numS nc ++ ⟨#[32]⟩)) (e32 : s.tmps.getD 32 undef = .string (numS nb')) (hz : ¬ 9223372036854775807 < (numS nc).size + 1 + (numS nb').size) (hK : K (s.put (some 33) (.string ((numS nc ++ ⟨#[32]⟩) ++ numS nb'))) x) :
  Oper.wp Tryz.prog ⟨some 33, .binOp .add 9 (.tmp 30) (.tmp 32) 9, ty1, po1, af1, gd1⟩ s x K Q := by
 have f30 : s.eval (.tmp 30) = _ := e30
 have f32 : s.eval (.tmp 32) = _ := e32
 go_simp
 exact hK
theorem told_r6_o6 (e33 : s.tmps.getD 33 undef = .string ((numS nc ++ ⟨#[32]⟩) ++ numS nb')) (hz : ¬ 9223372036854775807 < (numS nc).size + 1 + (numS nb').size + 1) (hK : K (s.put (some 34) (.string (((numS nc ++ ⟨#[32]⟩) ++ numS nb') ++ ⟨#[9]⟩))) x) :
  Oper.wp Tryz.prog ⟨some 34, .binOp .add 9 (.tmp 33) (.const (.string { data := #[9] })) 9, ty1, po1, af1, gd1⟩ s x K Q := by
 have f33 : s.eval (.tmp 33) = _ := e33
 go_simp
 exact hK
theorem told_r6_o7 (e4 : s.tmps.getD 4 undef = .pointer (some ⟨ba, 0, none⟩)) (y0 : x.cell? ⟨ba, 0, none⟩ = some (.int .u64 (limb na 0))) (y1 : x.cell? ⟨ba, 1, none⟩ = some (.int .u64 (limb na 1))) (y2 : x.cell? ⟨ba, 2, none⟩ = some (.int .u64 (limb na 2))) (y3 : x.cell? ⟨ba, 3, none⟩ = some (.int .u64 (limb na 3))) (hK : K (s.put (some 35) (.agg #[.int .u64 (limb na 0), .int .u64 (limb na 1), .int .u64 (limb na 2), .int .u64 (limb na 3)])) x) :
  Oper.wp Tryz.prog ⟨some 35, .load 24 (.tmp 4), ty1, po1, af1, gd1⟩ s x K Q := by
 have f4 : s.eval (.tmp 4) = _ := e4
 go_simp
 exact hK
theorem told_r6_o9 (e34 : s.tmps.getD 34 undef = .string (((numS nc ++ ⟨#[32]⟩) ++ numS nb') ++ ⟨#[9]⟩)) (e36 : s.tmps.getD 36 undef = .string (numS na)) (hz : ¬ 9223372036854775807 < (numS nc).size + 1 + (numS nb').size + 1 + (numS na).size) (hK : K (s.put (some 37) (.string ((((numS nc ++ ⟨#[32]⟩) ++ numS nb') ++ ⟨#[9]⟩) ++ numS na))) x) :
  Oper.wp Tryz.prog ⟨some 37, .binOp .add 9 (.tmp 34) (.tmp 36) 9, ty1, po1, af1, gd1⟩ s x K Q := by
 have f34 : s.eval (.tmp 34) = _ := e34
 have f36 : s.eval (.tmp 36) = _ := e36
 go_simp
 exact hK
theorem told_r6_o10 (e37 : s.tmps.getD 37 undef = .string ((((numS nc ++ ⟨#[32]⟩) ++ numS nb') ++ ⟨#[9]⟩) ++ numS na)) (hz : ¬ 9223372036854775807 < (numS nc).size + 1 + (numS nb').size + 1 + (numS na).size + 9) (hK : K (s.put (some 38) (.string (((((numS nc ++ ⟨#[32]⟩) ++ numS nb') ++ ⟨#[9]⟩) ++ numS na) ++ ⟨#[32, 59, 32, 119, 111, 114, 100, 115, 10]⟩))) x) :
  Oper.wp Tryz.prog ⟨some 38, .binOp .add 9 (.tmp 37) (.const (.string { data := #[32, 59, 32, 119, 111, 114, 100, 115, 10] })) 9, ty1, po1, af1, gd1⟩ s x K Q := by
 have f37 : s.eval (.tmp 37) = _ := e37
 go_simp
 exact hK
theorem told_r6_o11 (e9 : s.tmps.getD 9 undef = .slice (some ⟨bn, 0, none⟩) 25 25)  (hK : K (s.put (some 39) (.slice (some ⟨bn, 0, none⟩) 25 25)) x) :
  Oper.wp Tryz.prog ⟨some 39, .move (.tmp 9), ty1, po1, af1, gd1⟩ s x K Q := by
 have f9 : s.eval (.tmp 9) = _ := e9
 go_simp
 exact hK
theorem told_r6_o12 (e3 : s.tmps.getD 3 undef = .int .i64 (kk : Int))  (hK : K (s.put (some 40) (.int .i64 (kk : Int))) x) :
  Oper.wp Tryz.prog ⟨some 40, .move (.tmp 3), ty1, po1, af1, gd1⟩ s x K Q := by
 have f3 : s.eval (.tmp 3) = _ := e3
 go_simp
 exact hK
theorem told_r6_o13 (e39 : s.tmps.getD 39 undef = .slice (some ⟨bn, 0, none⟩) 25 25) (e40 : s.tmps.getD 40 undef = .int .i64 (kk : Int)) (hk0 : (kk : Int) < 25) (hK : K (s.put (some 41) (.pointer (some ⟨bn, kk, none⟩))) x) :
  Oper.wp Tryz.prog ⟨some 41, .indexAddr 25 (.tmp 39) (.tmp 40), ty1, po1, af1, gd1⟩ s x K Q := by
 have f39 : s.eval (.tmp 39) = _ := e39
 have f40 : s.eval (.tmp 40) = _ := e40
 go_simp
 exact hK
theorem told_r6_o14 (e41 : s.tmps.getD 41 undef = .pointer (some ⟨bn, kk, none⟩)) (hk0 : x.cell? ⟨bn, kk, none⟩ = some (.string nm)) (hK : K (s.put (some 42) (.string nm)) x) :
  Oper.wp Tryz.prog ⟨some 42, .load 9 (.tmp 41), ty1, po1, af1, gd1⟩ s x K Q := by
 have f41 : s.eval (.tmp 41) = _ := e41
 go_simp
 exact hK
theorem told_r6_o15 (e38 : s.tmps.getD 38 undef = .string (((((numS nc ++ ⟨#[32]⟩) ++ numS nb') ++ ⟨#[9]⟩) ++ numS na) ++ ⟨#[32, 59, 32, 119, 111, 114, 100, 115, 10]⟩)) (e42 : s.tmps.getD 42 undef = .string nm) (hz : ¬ 9223372036854775807 < (numS nc).size + 1 + (numS nb').size + 1 + (numS na).size + 9 + nm.size) (hK : K (s.put (some 43) (.string ((((((numS nc ++ ⟨#[32]⟩) ++ numS nb') ++ ⟨#[9]⟩) ++ numS na) ++ ⟨#[32, 59, 32, 119, 111, 114, 100, 115, 10]⟩) ++ nm))) x) :
  Oper.wp Tryz.prog ⟨some 43, .binOp .add 9 (.tmp 38) (.tmp 42) 9, ty1, po1, af1, gd1⟩ s x K Q := by
 have f38 : s.eval (.tmp 38) = _ := e38
 have f42 : s.eval (.tmp 42) = _ := e42
 go_simp
 exact hK
theorem told_r6_o16 (e43 : s.tmps.getD 43 undef = .string ((((((numS nc ++ ⟨#[32]⟩) ++ numS nb') ++ ⟨#[9]⟩) ++ numS na) ++ ⟨#[32, 59, 32, 119, 111, 114, 100, 115, 10]⟩) ++ nm)) (hz : ¬ 9223372036854775807 < (numS nc).size + 1 + (numS nb').size + 1 + (numS na).size + 9 + nm.size + 66) (hK : K (s.put (some 44) (.string (((((((numS nc ++ ⟨#[32]⟩) ++ numS nb') ++ ⟨#[9]⟩) ++ numS na) ++ ⟨#[32, 59, 32, 119, 111, 114, 100, 115, 10]⟩) ++ nm) ++ ⟨#[32, 64, 103, 114, 195, 182, 195, 159, 101, 32, 74, 85, 77, 80, 32, 83, 84, 79, 80, 32, 103, 114, 195, 182, 195, 159, 101, 58, 32, 49, 32, 83, 83, 84, 79, 82, 69, 10, 49, 32, 83, 76, 79, 65, 68, 32, 48, 32, 77, 83, 84, 79, 82, 69, 32, 51, 50, 32, 48, 32, 82, 69, 84, 85, 82, 78]⟩))) x) :
  Oper.wp Tryz.prog ⟨some 44, .binOp .add 9 (.tmp 43) (.const (.string { data := ([32, 64, 103, 114, 195, 182, 195, 159, 101, 32, 74, 85, 77, 80, 32, 83, 84, 79, 80, 32, 103, 114, 195, 182, 195, 159, 101, 58, 32, 49, 32, 83, 83].append [84, 79, 82, 69, 10, 49, 32, 83, 76, 79, 65, 68, 32, 48, 32, 77, 83, 84, 79, 82, 69, 32, 51, 50, 32, 48, 32, 82, 69, 84, 85, 82, 78]).toArray })) 9, ty1, po1, af1, gd1⟩ s x K Q := by
 have f43 : s.eval (.tmp 43) = _ := e43
 go_simp
 exact hK
theorem told_r6_o17 (e44 : s.tmps.getD 44 undef = .string (((((((numS nc ++ ⟨#[32]⟩) ++ numS nb') ++ ⟨#[9]⟩) ++ numS na) ++ ⟨#[32, 59, 32, 119, 111, 114, 100, 115, 10]⟩) ++ nm) ++ ⟨#[32, 64, 103, 114, 195, 182, 195, 159, 101, 32, 74, 85, 77, 80, 32, 83, 84, 79, 80, 32, 103, 114, 195, 182, 195, 159, 101, 58, 32, 49, 32, 83, 83, 84, 79, 82, 69, 10, 49, 32, 83, 76, 79, 65, 68, 32, 48, 32, 77, 83, 84, 79, 82, 69, 32, 51, 50, 32, 48, 32, 82, 69, 84, 85, 82, 78]⟩))  (hK : K (s.put (some 11) (.string (((((((numS nc ++ ⟨#[32]⟩) ++ numS nb') ++ ⟨#[9]⟩) ++ numS na) ++ ⟨#[32, 59, 32, 119, 111, 114, 100, 115, 10]⟩) ++ nm) ++ ⟨#[32, 64, 103, 114, 195, 182, 195, 159, 101, 32, 74, 85, 77, 80, 32, 83, 84, 79, 80, 32, 103, 114, 195, 182, 195, 159, 101, 58, 32, 49, 32, 83, 83, 84, 79, 82, 69, 10, 49, 32, 83, 76, 79, 65, 68, 32, 48, 32, 77, 83, 84, 79, 82, 69, 32, 51, 50, 32, 48, 32, 82, 69, 84, 85, 82, 78]⟩))) x) :
  Oper.wp Tryz.prog ⟨some 11, .assign (.tmp 44), ty1, po1, af1, gd1⟩ s x K Q := by
 have f44 : s.eval (.tmp 44) = _ := e44
 go_simp
 exact hK
set_option maxHeartbeats 4000000 in
theorem told_r6 {ba bb bc bn na nb' nc kk : Nat} {nm : ByteArray} {Q : Exit → Act → World → Prop} (a : Act) (w : World) (ra : wrow w ba na) (rb : wrow w bb nb') (rc : wrow w bc nc) (hk25 : kk < 25) (hnl : nm.size ≤ 100) (hbn : bn < w.heap.size) (hnm : w.cell? ⟨bn, kk, none⟩ = some (.string nm)) (h0 : Below w.heap.size w w.drew) (hsz : decide (44 < a.tmps.size) = true) (c3 : a.tmps.getD 3 undef = .int .i64 (kk : Int)) (c4 : a.tmps.getD 4 undef = .pointer (some ⟨ba, 0, none⟩)) (c5 : a.tmps.getD 5 undef = .pointer (some ⟨bb, 0, none⟩)) (c6 : a.tmps.getD 6 undef = .pointer (some ⟨bc, 0, none⟩)) (c9 : a.tmps.getD 9 undef = .slice (some ⟨bn, 0, none⟩) 25 25)
  (hok : ∀ (x : World), (PhT w) 3 x → Q .normal (fill a [(28, .agg #[.int .u64 (limb nc 0), .int .u64 (limb nc 1), .int .u64 (limb nc 2), .int .u64 (limb nc 3)]), (29, .string (numS nc)), (30, .string (numS nc ++ ⟨#[32]⟩)), (31, .agg #[.int .u64 (limb nb' 0), .int .u64 (limb nb' 1), .int .u64 (limb nb' 2), .int .u64 (limb nb' 3)]), (32, .string (numS nb')), (33, .string ((numS nc ++ ⟨#[32]⟩) ++ numS nb')), (34, .string (((numS nc ++ ⟨#[32]⟩) ++ numS nb') ++ ⟨#[9]⟩)), (35, .agg #[.int .u64 (limb na 0), .int .u64 (limb na 1), .int .u64 (limb na 2), .int .u64 (limb na 3)]), (36, .string (numS na)), (37, .string ((((numS nc ++ ⟨#[32]⟩) ++ numS nb') ++ ⟨#[9]⟩) ++ numS na)), (38, .string (((((numS nc ++ ⟨#[32]⟩) ++ numS nb') ++ ⟨#[9]⟩) ++ numS na) ++ ⟨#[32, 59, 32, 119, 111, 114, 100, 115, 10]⟩)), (39, .slice (some ⟨bn, 0, none⟩) 25 25), (40, .int .i64 (kk : Int)), (41, .pointer (some ⟨bn, kk, none⟩)), (42, .string nm), (43, .string ((((((numS nc ++ ⟨#[32]⟩) ++ numS nb') ++ ⟨#[9]⟩) ++ numS na) ++ ⟨#[32, 59, 32, 119, 111, 114, 100, 115, 10]⟩) ++ nm)), (44, .string (((((((numS nc ++ ⟨#[32]⟩) ++ numS nb') ++ ⟨#[9]⟩) ++ numS na) ++ ⟨#[32, 59, 32, 119, 111, 114, 100, 115, 10]⟩) ++ nm) ++ ⟨#[32, 64, 103, 114, 195, 182, 195, 159, 101, 32, 74, 85, 77, 80, 32, 83, 84, 79, 80, 32, 103, 114, 195, 182, 195, 159, 101, 58, 32, 49, 32, 83, 83, 84, 79, 82, 69, 10, 49, 32, 83, 76, 79, 65, 68, 32, 48, 32, 77, 83, 84, 79, 82, 69, 32, 51, 50, 32, 48, 32, 82, 69, 84, 85, 82, 78]⟩)), (11, .string (((((((numS nc ++ ⟨#[32]⟩) ++ numS nb') ++ ⟨#[9]⟩) ++ numS na) ++ ⟨#[32, 59, 32, 119, 111, 114, 100, 115, 10]⟩) ++ nm) ++ ⟨#[32, 64, 103, 114, 195, 182, 195, 159, 101, 32, 74, 85, 77, 80, 32, 83, 84, 79, 80, 32, 103, 114, 195, 182, 195, 159, 101, 58, 32, 49, 32, 83, 83, 84, 79, 82, 69, 10, 49, 32, 83, 76, 79, 65, 68, 32, 48, 32, 77, 83, 84, 79, 82, 69, 32, 51, 50, 32, 48, 32, 82, 69, 84, 85, 82, 78]⟩))]) x) :
  (Code.region 6 #[⟨some 28, .load 24 (.tmp 6), 24, "keeps.go:120", #[], none⟩, ⟨some 29, .call ⟨.value (.func 9), #[.tmp 28], #[24]⟩, 9, "keeps.go:120", #[⟨0, .data⟩], none⟩, ⟨some 30, .binOp .add 9 (.tmp 29) (.const (.string { data := #[32] })) 9, 9, "keeps.go:120", #[⟨1, .data⟩], none⟩, ⟨some 31, .load 24 (.tmp 5), 24, "keeps.go:120", #[], none⟩, ⟨some 32, .call ⟨.value (.func 9), #[.tmp 31], #[24]⟩, 9, "keeps.go:120", #[⟨3, .data⟩, ⟨1, .chain⟩], none⟩, ⟨some 33, .binOp .add 9 (.tmp 30) (.tmp 32) 9, 9, "keeps.go:120", #[⟨2, .data⟩, ⟨4, .data⟩], none⟩, ⟨some 34, .binOp .add 9 (.tmp 33) (.const (.string { data := #[9] })) 9, 9, "keeps.go:120", #[⟨5, .data⟩], none⟩, ⟨some 35, .load 24 (.tmp 4), 24, "keeps.go:120", #[], none⟩, ⟨some 36, .call ⟨.value (.func 9), #[.tmp 35], #[24]⟩, 9, "keeps.go:120", #[⟨7, .data⟩, ⟨4, .chain⟩], none⟩, ⟨some 37, .binOp .add 9 (.tmp 34) (.tmp 36) 9, 9, "keeps.go:120", #[⟨6, .data⟩, ⟨8, .data⟩], none⟩, ⟨some 38, .binOp .add 9 (.tmp 37) (.const (.string { data := #[32, 59, 32, 119, 111, 114, 100, 115, 10] })) 9, 9, "keeps.go:120", #[⟨9, .data⟩], none⟩, ⟨some 39, .move (.tmp 9), 25, "keeps.go:120", #[], none⟩, ⟨some 40, .move (.tmp 3), 3, "keeps.go:120", #[], none⟩, ⟨some 41, .indexAddr 25 (.tmp 39) (.tmp 40), 0, "keeps.go:120", #[⟨11, .data⟩, ⟨12, .data⟩], none⟩, ⟨some 42, .load 9 (.tmp 41), 9, "keeps.go:120", #[⟨13, .data⟩], none⟩, ⟨some 43, .binOp .add 9 (.tmp 38) (.tmp 42) 9, 9, "keeps.go:120", #[⟨10, .data⟩, ⟨14, .data⟩], none⟩, ⟨some 44, .binOp .add 9 (.tmp 43) (.const (.string { data := ([32, 64, 103, 114, 195, 182, 195, 159, 101, 32, 74, 85, 77, 80, 32, 83, 84, 79, 80, 32, 103, 114, 195, 182, 195, 159, 101, 58, 32, 49, 32, 83, 83].append [84, 79, 82, 69, 10, 49, 32, 83, 76, 79, 65, 68, 32, 48, 32, 77, 83, 84, 79, 82, 69, 32, 51, 50, 32, 48, 32, 82, 69, 84, 85, 82, 78]).toArray })) 9, 9, "keeps.go:120", #[⟨15, .data⟩], none⟩, ⟨some 11, .assign (.tmp 44), 9, "keeps.go:120", #[⟨16, .data⟩, ⟨8, .chain⟩, ⟨0, .phase⟩, ⟨1, .phase⟩, ⟨2, .phase⟩, ⟨3, .phase⟩, ⟨4, .phase⟩, ⟨5, .phase⟩, ⟨6, .phase⟩, ⟨7, .phase⟩, ⟨8, .phase⟩, ⟨9, .phase⟩, ⟨10, .phase⟩, ⟨11, .phase⟩, ⟨12, .phase⟩, ⟨13, .phase⟩, ⟨14, .phase⟩, ⟨15, .phase⟩, ⟨16, .phase⟩], none⟩] true).wp Tryz.prog Q a w := by
 have hsz := of_decide_eq_true hsz
 refine wp_region_ph (by kernel_rfl) (by kernel_rfl) (PhT w) (fun _ _ _ => True) [(some 28, Cp (.agg #[.int .u64 (limb nc 0), .int .u64 (limb nc 1), .int .u64 (limb nc 2), .int .u64 (limb nc 3)])), (some 29, Cp (.string (numS nc))), (some 30, Cp (.string (numS nc ++ ⟨#[32]⟩))), (some 31, Cp (.agg #[.int .u64 (limb nb' 0), .int .u64 (limb nb' 1), .int .u64 (limb nb' 2), .int .u64 (limb nb' 3)])), (some 32, Cp (.string (numS nb'))), (some 33, Cp (.string ((numS nc ++ ⟨#[32]⟩) ++ numS nb'))), (some 34, Cp (.string (((numS nc ++ ⟨#[32]⟩) ++ numS nb') ++ ⟨#[9]⟩))), (some 35, Cp (.agg #[.int .u64 (limb na 0), .int .u64 (limb na 1), .int .u64 (limb na 2), .int .u64 (limb na 3)])), (some 36, Cp (.string (numS na))), (some 37, Cp (.string ((((numS nc ++ ⟨#[32]⟩) ++ numS nb') ++ ⟨#[9]⟩) ++ numS na))), (some 38, Cp (.string (((((numS nc ++ ⟨#[32]⟩) ++ numS nb') ++ ⟨#[9]⟩) ++ numS na) ++ ⟨#[32, 59, 32, 119, 111, 114, 100, 115, 10]⟩))), (some 39, Cp (.slice (some ⟨bn, 0, none⟩) 25 25)), (some 40, Cp (.int .i64 (kk : Int))), (some 41, Cp (.pointer (some ⟨bn, kk, none⟩))), (some 42, Cp (.string nm)), (some 43, Cp (.string ((((((numS nc ++ ⟨#[32]⟩) ++ numS nb') ++ ⟨#[9]⟩) ++ numS na) ++ ⟨#[32, 59, 32, 119, 111, 114, 100, 115, 10]⟩) ++ nm))), (some 44, Cp (.string (((((((numS nc ++ ⟨#[32]⟩) ++ numS nb') ++ ⟨#[9]⟩) ++ numS na) ++ ⟨#[32, 59, 32, 119, 111, 114, 100, 115, 10]⟩) ++ nm) ++ ⟨#[32, 64, 103, 114, 195, 182, 195, 159, 101, 32, 74, 85, 77, 80, 32, 83, 84, 79, 80, 32, 103, 114, 195, 182, 195, 159, 101, 58, 32, 49, 32, 83, 83, 84, 79, 82, 69, 10, 49, 32, 83, 76, 79, 65, 68, 32, 48, 32, 77, 83, 84, 79, 82, 69, 32, 51, 50, 32, 48, 32, 82, 69, 84, 85, 82, 78]⟩))), (some 11, Cp (.string (((((((numS nc ++ ⟨#[32]⟩) ++ numS nb') ++ ⟨#[9]⟩) ++ numS na) ++ ⟨#[32, 59, 32, 119, 111, 114, 100, 115, 10]⟩) ++ nm) ++ ⟨#[32, 64, 103, 114, 195, 182, 195, 159, 101, 32, 74, 85, 77, 80, 32, 83, 84, 79, 80, 32, 103, 114, 195, 182, 195, 159, 101, 58, 32, 49, 32, 83, 83, 84, 79, 82, 69, 10, 49, 32, 83, 76, 79, 65, 68, 32, 48, 32, 77, 83, 84, 79, 82, 69, 32, 51, 50, 32, 48, 32, 82, 69, 84, 85, 82, 78]⟩)))] [1, 4, 8] rfl (by rfl) ?_ ?_ [(3, .int .i64 (kk : Int)), (4, .pointer (some ⟨ba, 0, none⟩)), (5, .pointer (some ⟨bb, 0, none⟩)), (6, .pointer (some ⟨bc, 0, none⟩)), (9, .slice (some ⟨bn, 0, none⟩) 25 25)] ?_ (by rfl) (by kernel_rfl) (by rfl) (by rfl) ?_ ?_ ?_ ?_
 ·refine List.all_eq_true.2 fun d hd => decide_eq_true ?_
  have hd2 : d ∈ ([28, 29, 30, 31, 32, 33, 34, 35, 36, 37, 38, 39, 40, 41, 42, 43, 44, 11] : List Nat) := hd
  simp at hd2
  omega
 ·exact h0
 ·intro p hp
  simp only [List.mem_cons, List.not_mem_nil, or_false] at hp
  rcases hp with rfl | rfl | rfl | rfl | rfl
  ·exact c3
  ·exact c4
  ·exact c5
  ·exact c6
  ·exact c9
 ·intro j d T hj p v x x' hne hpl hph hrel ht
  have hjl : j < 18 := (List.getElem?_eq_some_iff.1 hj).1
  rcases ltq18 hjl with rfl | rfl | rfl | rfl | rfl | rfl | rfl | rfl | rfl | rfl | rfl | rfl | rfl | rfl | rfl | rfl | rfl | rfl
  ·obtain ⟨rfl, rfl⟩ := pk hj
   exact ht
  ·obtain ⟨rfl, rfl⟩ := pk hj
   exact ht
  ·obtain ⟨rfl, rfl⟩ := pk hj
   exact ht
  ·obtain ⟨rfl, rfl⟩ := pk hj
   exact ht
  ·obtain ⟨rfl, rfl⟩ := pk hj
   exact ht
  ·obtain ⟨rfl, rfl⟩ := pk hj
   exact ht
  ·obtain ⟨rfl, rfl⟩ := pk hj
   exact ht
  ·obtain ⟨rfl, rfl⟩ := pk hj
   exact ht
  ·obtain ⟨rfl, rfl⟩ := pk hj
   exact ht
  ·obtain ⟨rfl, rfl⟩ := pk hj
   exact ht
  ·obtain ⟨rfl, rfl⟩ := pk hj
   exact ht
  ·obtain ⟨rfl, rfl⟩ := pk hj
   exact ht
  ·obtain ⟨rfl, rfl⟩ := pk hj
   exact ht
  ·obtain ⟨rfl, rfl⟩ := pk hj
   exact ht
  ·obtain ⟨rfl, rfl⟩ := pk hj
   exact ht
  ·obtain ⟨rfl, rfl⟩ := pk hj
   exact ht
  ·obtain ⟨rfl, rfl⟩ := pk hj
   exact ht
  ·obtain ⟨rfl, rfl⟩ := pk hj
   exact ht
 ·intro i o d T ho ht hic k s x hk hlo hhi hph hdf hb hdep
  have hi : i < 18 := (Array.getElem?_eq_some_iff.1 ho).1
  rcases ltq18 hi with rfl | rfl | rfl | rfl | rfl | rfl | rfl | rfl | rfl | rfl | rfl | rfl | rfl | rfl | rfl | rfl | rfl | rfl
  ·obtain rfl := sj ho
   obtain ⟨rfl, rfl⟩ := pk ht
   refine ⟨want_none rfl, fun K hK => ?_⟩
   obtain ⟨y0, y1, y2, y3⟩ := row_cells4 (row_below rc (show Below w.heap.size w x from hph))
   exact told_r6_o0 (hb (6, .pointer (some ⟨bc, 0, none⟩)) (List.Mem.tail _ (List.Mem.tail _ (List.Mem.tail _ (List.Mem.head _))))) y0 y1 y2 y3 (hK _ nn1 rfl)
  ·exact absurd (by simp) hic
  ·obtain rfl := sj ho
   obtain ⟨rfl, rfl⟩ := pk ht
   refine ⟨want_none rfl, fun K hK => ?_⟩
   have hz : ¬ 9223372036854775807 < (numS nc).size + 1 := by have := (numS_signs nc).2.2; have := (numS_signs nb').2.2; have := (numS_signs na).2.2; omega
   exact told_r6_o2 (hdep ⟨1, .data⟩ (by simp) rfl _ _ rfl) hz (hK _ nn1 rfl)
  ·obtain rfl := sj ho
   obtain ⟨rfl, rfl⟩ := pk ht
   refine ⟨want_none rfl, fun K hK => ?_⟩
   obtain ⟨y0, y1, y2, y3⟩ := row_cells4 (row_below rb (show Below w.heap.size w x from hph))
   exact told_r6_o3 (hb (5, .pointer (some ⟨bb, 0, none⟩)) (List.Mem.tail _ (List.Mem.tail _ (List.Mem.head _)))) y0 y1 y2 y3 (hK _ nn1 rfl)
  ·exact absurd (by simp) hic
  ·obtain rfl := sj ho
   obtain ⟨rfl, rfl⟩ := pk ht
   refine ⟨want_none rfl, fun K hK => ?_⟩
   have hz : ¬ 9223372036854775807 < (numS nc).size + 1 + (numS nb').size := by have := (numS_signs nc).2.2; have := (numS_signs nb').2.2; have := (numS_signs na).2.2; omega
   exact told_r6_o5 (hdep ⟨2, .data⟩ (by simp) rfl _ _ rfl) (hdep ⟨4, .data⟩ (by simp) rfl _ _ rfl) hz (hK _ nn1 rfl)
  ·obtain rfl := sj ho
   obtain ⟨rfl, rfl⟩ := pk ht
   refine ⟨want_none rfl, fun K hK => ?_⟩
   have hz : ¬ 9223372036854775807 < (numS nc).size + 1 + (numS nb').size + 1 := by have := (numS_signs nc).2.2; have := (numS_signs nb').2.2; have := (numS_signs na).2.2; omega
   exact told_r6_o6 (hdep ⟨5, .data⟩ (by simp) rfl _ _ rfl) hz (hK _ nn1 rfl)
  ·obtain rfl := sj ho
   obtain ⟨rfl, rfl⟩ := pk ht
   refine ⟨want_none rfl, fun K hK => ?_⟩
   obtain ⟨y0, y1, y2, y3⟩ := row_cells4 (row_below ra (show Below w.heap.size w x from hph))
   exact told_r6_o7 (hb (4, .pointer (some ⟨ba, 0, none⟩)) (List.Mem.tail _ (List.Mem.head _))) y0 y1 y2 y3 (hK _ nn1 rfl)
  ·exact absurd (by simp) hic
  ·obtain rfl := sj ho
   obtain ⟨rfl, rfl⟩ := pk ht
   refine ⟨want_none rfl, fun K hK => ?_⟩
   have hz : ¬ 9223372036854775807 < (numS nc).size + 1 + (numS nb').size + 1 + (numS na).size := by have := (numS_signs nc).2.2; have := (numS_signs nb').2.2; have := (numS_signs na).2.2; omega
   exact told_r6_o9 (hdep ⟨6, .data⟩ (by simp) rfl _ _ rfl) (hdep ⟨8, .data⟩ (by simp) rfl _ _ rfl) hz (hK _ nn1 rfl)
  ·obtain rfl := sj ho
   obtain ⟨rfl, rfl⟩ := pk ht
   refine ⟨want_none rfl, fun K hK => ?_⟩
   have hz : ¬ 9223372036854775807 < (numS nc).size + 1 + (numS nb').size + 1 + (numS na).size + 9 := by have := (numS_signs nc).2.2; have := (numS_signs nb').2.2; have := (numS_signs na).2.2; omega
   exact told_r6_o10 (hdep ⟨9, .data⟩ (by simp) rfl _ _ rfl) hz (hK _ nn1 rfl)
  ·obtain rfl := sj ho
   obtain ⟨rfl, rfl⟩ := pk ht
   refine ⟨want_none rfl, fun K hK => ?_⟩
   exact told_r6_o11 (hb (9, .slice (some ⟨bn, 0, none⟩) 25 25) (List.Mem.tail _ (List.Mem.tail _ (List.Mem.tail _ (List.Mem.tail _ (List.Mem.head _))))))  (hK _ nn1 rfl)
  ·obtain rfl := sj ho
   obtain ⟨rfl, rfl⟩ := pk ht
   refine ⟨want_none rfl, fun K hK => ?_⟩
   exact told_r6_o12 (hb (3, .int .i64 (kk : Int)) (List.Mem.head _))  (hK _ nn1 rfl)
  ·obtain rfl := sj ho
   obtain ⟨rfl, rfl⟩ := pk ht
   refine ⟨want_none rfl, fun K hK => ?_⟩
   have hk0 : (kk : Int) < 25 := by omega
   exact told_r6_o13 (hdep ⟨11, .data⟩ (by simp) rfl _ _ rfl) (hdep ⟨12, .data⟩ (by simp) rfl _ _ rfl) hk0 (hK _ nn1 rfl)
  ·obtain rfl := sj ho
   obtain ⟨rfl, rfl⟩ := pk ht
   refine ⟨want_none rfl, fun K hK => ?_⟩
   have hk0 := (show Below w.heap.size w x from hph).cell hbn |>.trans hnm
   exact told_r6_o14 (hdep ⟨13, .data⟩ (by simp) rfl _ _ rfl) hk0 (hK _ nn1 rfl)
  ·obtain rfl := sj ho
   obtain ⟨rfl, rfl⟩ := pk ht
   refine ⟨want_none rfl, fun K hK => ?_⟩
   have hz : ¬ 9223372036854775807 < (numS nc).size + 1 + (numS nb').size + 1 + (numS na).size + 9 + nm.size := by have := (numS_signs nc).2.2; have := (numS_signs nb').2.2; have := (numS_signs na).2.2; omega
   exact told_r6_o15 (hdep ⟨10, .data⟩ (by simp) rfl _ _ rfl) (hdep ⟨14, .data⟩ (by simp) rfl _ _ rfl) hz (hK _ nn1 rfl)
  ·obtain rfl := sj ho
   obtain ⟨rfl, rfl⟩ := pk ht
   refine ⟨want_none rfl, fun K hK => ?_⟩
   have hz : ¬ 9223372036854775807 < (numS nc).size + 1 + (numS nb').size + 1 + (numS na).size + 9 + nm.size + 66 := by have := (numS_signs nc).2.2; have := (numS_signs nb').2.2; have := (numS_signs na).2.2; omega
   exact told_r6_o16 (hdep ⟨15, .data⟩ (by simp) rfl _ _ rfl) hz (hK _ nn1 rfl)
  ·obtain rfl := sj ho
   obtain ⟨rfl, rfl⟩ := pk ht
   refine ⟨want_none rfl, fun K hK => ?_⟩
   exact told_r6_o17 (hdep ⟨16, .data⟩ (by simp) rfl _ _ rfl)  (hK _ nn1 rfl)
 ·intro p i o d T hp ho ht s x hph hdf hb hdep
  have hpl : p < 3 := (List.getElem?_eq_some_iff.1 hp).1
  rcases ltq3 hpl with rfl | rfl | rfl
  ·obtain rfl := sj hp
   obtain rfl := sj ho
   obtain ⟨rfl, rfl⟩ := pk ht
   refine ⟨want_none rfl, fun K hK => ?_⟩
   have hph : Below w.heap.size w x := hph
   refine st_call own_number (ev1 (hdep ⟨0, .data⟩ (by simp) rfl _ _ rfl)) (knum_any nc x) ?_
   rintro e y ⟨rfl, hB⟩
   exact ⟨_, rfl, hK _ y (show PhT w _ y from hph.trans (hB.mono hph.size)) trivial nn1 rfl⟩
  ·obtain rfl := sj hp
   obtain rfl := sj ho
   obtain ⟨rfl, rfl⟩ := pk ht
   refine ⟨want_none rfl, fun K hK => ?_⟩
   have hph : Below w.heap.size w x := hph
   refine st_call own_number (ev1 (hdep ⟨3, .data⟩ (by simp) rfl _ _ rfl)) (knum_any nb' x) ?_
   rintro e y ⟨rfl, hB⟩
   exact ⟨_, rfl, hK _ y (show PhT w _ y from hph.trans (hB.mono hph.size)) trivial nn1 rfl⟩
  ·obtain rfl := sj hp
   obtain rfl := sj ho
   obtain ⟨rfl, rfl⟩ := pk ht
   refine ⟨want_none rfl, fun K hK => ?_⟩
   have hph : Below w.heap.size w x := hph
   refine st_call own_number (ev1 (hdep ⟨7, .data⟩ (by simp) rfl _ _ rfl)) (knum_any na x) ?_
   rintro e y ⟨rfl, hB⟩
   exact ⟨_, rfl, hK _ y (show PhT w _ y from hph.trans (hB.mono hph.size)) trivial nn1 rfl⟩
 ·intro vs x hph hl hT
  obtain ⟨v0, v1, v2, v3, v4, v5, v6, v7, v8, v9, v10, v11, v12, v13, v14, v15, v16, v17, rfl⟩ := lenq18 hl
  obtain rfl : v0 = .agg #[.int .u64 (limb nc 0), .int .u64 (limb nc 1), .int .u64 (limb nc 2), .int .u64 (limb nc 3)] := hT 0 _ _ rfl
  obtain rfl : v1 = .string (numS nc) := hT 1 _ _ rfl
  obtain rfl : v2 = .string (numS nc ++ ⟨#[32]⟩) := hT 2 _ _ rfl
  obtain rfl : v3 = .agg #[.int .u64 (limb nb' 0), .int .u64 (limb nb' 1), .int .u64 (limb nb' 2), .int .u64 (limb nb' 3)] := hT 3 _ _ rfl
  obtain rfl : v4 = .string (numS nb') := hT 4 _ _ rfl
  obtain rfl : v5 = .string ((numS nc ++ ⟨#[32]⟩) ++ numS nb') := hT 5 _ _ rfl
  obtain rfl : v6 = .string (((numS nc ++ ⟨#[32]⟩) ++ numS nb') ++ ⟨#[9]⟩) := hT 6 _ _ rfl
  obtain rfl : v7 = .agg #[.int .u64 (limb na 0), .int .u64 (limb na 1), .int .u64 (limb na 2), .int .u64 (limb na 3)] := hT 7 _ _ rfl
  obtain rfl : v8 = .string (numS na) := hT 8 _ _ rfl
  obtain rfl : v9 = .string ((((numS nc ++ ⟨#[32]⟩) ++ numS nb') ++ ⟨#[9]⟩) ++ numS na) := hT 9 _ _ rfl
  obtain rfl : v10 = .string (((((numS nc ++ ⟨#[32]⟩) ++ numS nb') ++ ⟨#[9]⟩) ++ numS na) ++ ⟨#[32, 59, 32, 119, 111, 114, 100, 115, 10]⟩) := hT 10 _ _ rfl
  obtain rfl : v11 = .slice (some ⟨bn, 0, none⟩) 25 25 := hT 11 _ _ rfl
  obtain rfl : v12 = .int .i64 (kk : Int) := hT 12 _ _ rfl
  obtain rfl : v13 = .pointer (some ⟨bn, kk, none⟩) := hT 13 _ _ rfl
  obtain rfl : v14 = .string nm := hT 14 _ _ rfl
  obtain rfl : v15 = .string ((((((numS nc ++ ⟨#[32]⟩) ++ numS nb') ++ ⟨#[9]⟩) ++ numS na) ++ ⟨#[32, 59, 32, 119, 111, 114, 100, 115, 10]⟩) ++ nm) := hT 15 _ _ rfl
  obtain rfl : v16 = .string (((((((numS nc ++ ⟨#[32]⟩) ++ numS nb') ++ ⟨#[9]⟩) ++ numS na) ++ ⟨#[32, 59, 32, 119, 111, 114, 100, 115, 10]⟩) ++ nm) ++ ⟨#[32, 64, 103, 114, 195, 182, 195, 159, 101, 32, 74, 85, 77, 80, 32, 83, 84, 79, 80, 32, 103, 114, 195, 182, 195, 159, 101, 58, 32, 49, 32, 83, 83, 84, 79, 82, 69, 10, 49, 32, 83, 76, 79, 65, 68, 32, 48, 32, 77, 83, 84, 79, 82, 69, 32, 51, 50, 32, 48, 32, 82, 69, 84, 85, 82, 78]⟩) := hT 16 _ _ rfl
  obtain rfl : v17 = .string (((((((numS nc ++ ⟨#[32]⟩) ++ numS nb') ++ ⟨#[9]⟩) ++ numS na) ++ ⟨#[32, 59, 32, 119, 111, 114, 100, 115, 10]⟩) ++ nm) ++ ⟨#[32, 64, 103, 114, 195, 182, 195, 159, 101, 32, 74, 85, 77, 80, 32, 83, 84, 79, 80, 32, 103, 114, 195, 182, 195, 159, 101, 58, 32, 49, 32, 83, 83, 84, 79, 82, 69, 10, 49, 32, 83, 76, 79, 65, 68, 32, 48, 32, 77, 83, 84, 79, 82, 69, 32, 51, 50, 32, 48, 32, 82, 69, 84, 85, 82, 78]⟩) := hT 17 _ _ rfl
  exact hok x hph
end
end
section
open Go.RowKit Go.Maps
set_option maxRecDepth 100000
def nmC (i : Nat) : Value := .string ⟨(nmsL.getD i []).toArray⟩
def opC (i : Nat) : Value := .int .u8 ((opsL.getD i 0 : Nat) : Int)
structure TW (w : World) (na nb' nc : Nat) (x : World) : Prop where
 ra : wrow x w.heap.size na
 rb : wrow x (w.heap.size + 1) nb'
 rc : wrow x (w.heap.size + 1 + 1) nc
 rn : x.rowIs (w.heap.size + 1 + 1 + 1) 9 25 nmC
 ro : x.rowIs (w.heap.size + 1 + 1 + 1 + 1) 5 25 opC
 be : Below w.heap.size w x
theorem TW.below {w x y : World} {na nb' nc : Nat} (h : TW w na nb' nc x) (hb : Below x.heap.size x y) : TW w na nb' nc y :=
 ⟨row_below h.ra hb, row_below h.rb hb, row_below h.rc hb, row_below h.rn hb, row_below h.ro hb, h.be.trans (hb.mono h.be.size)⟩
theorem i25 {i : Nat} (h : i < 25) : i = 0 ∨ i = 1 ∨ i = 2 ∨ i = 3 ∨ i = 4 ∨ i = 5 ∨ i = 6 ∨ i = 7 ∨ i = 8 ∨ i = 9 ∨ i = 10 ∨ i = 11 ∨ i = 12 ∨ i = 13 ∨ i = 14 ∨ i = 15 ∨ i = 16 ∨ i = 17 ∨ i = 18 ∨ i = 19 ∨ i = 20 ∨ i = 21 ∨ i = 22 ∨ i = 23 ∨ i = 24 := by omega
abbrev nmA : Array Value := #[.string ⟨#[65, 68, 68]⟩, .string ⟨#[77, 85, 76]⟩, .string ⟨#[83, 85, 66]⟩, .string ⟨#[68, 73, 86]⟩, .string ⟨#[83, 68, 73, 86]⟩, .string ⟨#[77, 79, 68]⟩, .string ⟨#[83, 77, 79, 68]⟩, .string ⟨#[65, 68, 68, 77, 79, 68]⟩, .string ⟨#[77, 85, 76, 77, 79, 68]⟩, .string ⟨#[69, 88, 80]⟩, .string ⟨#[83, 73, 71, 78, 69, 88, 84, 69, 78, 68]⟩, .string ⟨#[76, 84]⟩, .string ⟨#[71, 84]⟩, .string ⟨#[83, 76, 84]⟩, .string ⟨#[83, 71, 84]⟩, .string ⟨#[69, 81]⟩, .string ⟨#[73, 83, 90, 69, 82, 79]⟩, .string ⟨#[65, 78, 68]⟩, .string ⟨#[79, 82]⟩, .string ⟨#[88, 79, 82]⟩, .string ⟨#[78, 79, 84]⟩, .string ⟨#[66, 89, 84, 69]⟩, .string ⟨#[83, 72, 76]⟩, .string ⟨#[83, 72, 82]⟩, .string ⟨#[83, 65, 82]⟩]
abbrev opA : Array Value := #[.int .u8 1, .int .u8 2, .int .u8 3, .int .u8 4, .int .u8 5, .int .u8 6, .int .u8 7, .int .u8 8, .int .u8 9, .int .u8 10, .int .u8 11, .int .u8 16, .int .u8 17, .int .u8 18, .int .u8 19, .int .u8 20, .int .u8 21, .int .u8 22, .int .u8 23, .int .u8 24, .int .u8 25, .int .u8 26, .int .u8 27, .int .u8 28, .int .u8 29]
theorem nmA_c : ∀ i, i < nmA.size → nmA[i]? = some (nmC i) := fun i hi => by
 rcases i25 hi with rfl | rfl | rfl | rfl | rfl | rfl | rfl | rfl | rfl | rfl | rfl | rfl | rfl | rfl | rfl | rfl | rfl | rfl | rfl | rfl | rfl | rfl | rfl | rfl | rfl <;> rfl
theorem opA_c : ∀ i, i < opA.size → opA[i]? = some (opC i) := fun i hi => by
 rcases i25 hi with rfl | rfl | rfl | rfl | rfl | rfl | rfl | rfl | rfl | rfl | rfl | rfl | rfl | rfl | rfl | rfl | rfl | rfl | rfl | rfl | rfl | rfl | rfl | rfl | rfl <;> rfl
theorem nm_small {i : Nat} (h : i < 25) : (⟨(nmsL.getD i []).toArray⟩ : ByteArray).size ≤ 100 := by
 rcases i25 h with rfl | rfl | rfl | rfl | rfl | rfl | rfl | rfl | rfl | rfl | rfl | rfl | rfl | rfl | rfl | rfl | rfl | rfl | rfl | rfl | rfl | rfl | rfl | rfl | rfl <;> decide
theorem op_ok {i : Nat} (h : i < 25) : opN (opsL.getD i 0) = true ∧ opsL.getD i 0 ≤ 255 := by
 rcases i25 h with rfl | rfl | rfl | rfl | rfl | rfl | rfl | rfl | rfl | rfl | rfl | rfl | rfl | rfl | rfl | rfl | rfl | rfl | rfl | rfl | rfl | rfl | rfl | rfl | rfl <;> decide
theorem op_err {i : Nat} (h : i < 25) : ferr (opsL.getD i 0) = 0 := by
 rcases i25 h with rfl | rfl | rfl | rfl | rfl | rfl | rfl | rfl | rfl | rfl | rfl | rfl | rfl | rfl | rfl | rfl | rfl | rfl | rfl | rfl | rfl | rfl | rfl | rfl | rfl <;> decide
theorem tw_mk (w : World) (na nb' nc : Nat) : TW w na nb' nc (((((w.alloc (wc na)).alloc (wc nb')).alloc (wc nc)).alloc (.cells nmA 9)).alloc (.cells opA 5)) := by
 have s1 : (w.alloc (wc na)).heap.size = w.heap.size + 1 := by simp
 have s2 : ((w.alloc (wc na)).alloc (wc nb')).heap.size = w.heap.size + 1 + 1 := by simp
 have s3 : (((w.alloc (wc na)).alloc (wc nb')).alloc (wc nc)).heap.size = w.heap.size + 1 + 1 + 1 := by simp
 have s4 : ((((w.alloc (wc na)).alloc (wc nb')).alloc (wc nc)).alloc (.cells nmA 9)).heap.size = w.heap.size + 1 + 1 + 1 + 1 := by simp
 have r1 := wrow_new w na
 have r2 := wrow_new (w.alloc (wc na)) nb'
 have r3 := wrow_new ((w.alloc (wc na)).alloc (wc nb')) nc
 have r4 := World.rowIs_alloc (((w.alloc (wc na)).alloc (wc nb')).alloc (wc nc)) nmA 9 nmC nmA_c
 have r5 := World.rowIs_alloc ((((w.alloc (wc na)).alloc (wc nb')).alloc (wc nc)).alloc (.cells nmA 9)) opA 5 opC opA_c
 rw [s1] at r2
 rw [s2] at r3
 rw [s3] at r4
 rw [s4] at r5
 exact ⟨row_below r1 (bal (bal (bal (bal (Below.refl _ _) _) _) _) _), row_below r2 (bal (bal (bal (Below.refl _ _) _) _) _), row_below r3 (bal (bal (Below.refl _ _) _) _), row_below r4 (bal (Below.refl _ _) _), r5, bal (bal (bal (bal (bal (Below.refl _ _) _) _) _) _) _⟩
abbrev srcS (na nb' nc k : Nat) : ByteArray := (((((((numS nc ++ ⟨#[32]⟩) ++ numS nb') ++ ⟨#[9]⟩) ++ numS na) ++ ⟨#[32, 59, 32, 119, 111, 114, 100, 115, 10]⟩) ++ ⟨(nmsL.getD k []).toArray⟩) ++ ⟨#[32, 64, 103, 114, 195, 182, 195, 159, 101, 32, 74, 85, 77, 80, 32, 83, 84, 79, 80, 32, 103, 114, 195, 182, 195, 159, 101, 58, 32, 49, 32, 83, 83, 84, 79, 82, 69, 10, 49, 32, 83, 76, 79, 65, 68, 32, 48, 32, 77, 83, 84, 79, 82, 69, 32, 51, 50, 32, 48, 32, 82, 69, 84, 85, 82, 78]⟩)
abbrev codeL (na nb' nc k : Nat) : List UInt8 := pcode (nc % M) ++ (pcode (nb' % M) ++ (pcode (na % M) ++ tlL (opsL.getD k 0) ((pcode (nc % M) ++ (pcode (nb' % M) ++ pcode (na % M))).length + 6)))
theorem bl_add' (x y : ByteArray) : bl (x ++ y) = bl x ++ bl y := by
 show (ByteArray.data _).toList = _
 rw [ByteArray.data_append, Array.toList_append]
 rfl
theorem src_bl (na nb' nc k : Nat) : bl (srcS na nb' nc k) = bl (numS nc) ++ (32 :: (bl (numS nb') ++ (9 :: (bl (numS na) ++ (32 :: restL k))))) := by
 unfold srcS
 rw [bl_add', bl_add', bl_add', bl_add', bl_add', bl_add', bl_add', bl_arr_mk (nmsL.getD k [])]
 simp only [List.append_assoc]
 rfl
theorem code_of (na nb' nc : Nat) {k : Nat} (hk : k < 25) (w : World) : ∃ s : ByteArray, Hid (bl s = codeL na nb' nc k) ∧ s.size ≤ 1000 ∧ 0 < s.size ∧ Hid (∀ w, Calls Tryz.prog 10 #[.string (srcS na nb' nc k)] w fun e w' => e = .returned (.string s) ∧ Below w.heap.size w w') := by
 refine ⟨⟨(codeL na nb' nc k).toArray⟩, rfl, ?_, ?_, fun w => kcode_any _ _ (asm_told hk (src_bl na nb' nc k)) w⟩
 ·have hlc := pcode_len (nc % M)
  have hlb := pcode_len (nb' % M)
  have hla := pcode_len (na % M)
  show (codeL na nb' nc k).length ≤ 1000
  simp only [codeL, tlL, List.length_append, List.length_cons, List.length_nil]
  omega
 ·show 0 < (codeL na nb' nc k).length
  simp only [codeL, tlL, List.length_append, List.length_cons, List.length_nil]
  omega
abbrev acc0 (r9 : Nat) (s : ByteArray) : Array Value := #[.int .u64 (limb r9 0), .int .u64 (limb r9 1), .int .u64 (limb r9 2), .int .u64 (limb r9 3), .int .u64 0, .int .u64 0, .int .u64 0, .int .u64 0, .string s, .slice none 0 0]
theorem acct_new (w : World) (r9 : Nat) (s : ByteArray) : AcctAt (w.alloc (.cells (acc0 r9 s) 34)) w.heap.size r9 0 s := by
 have e : acc0 r9 s = acctC r9 0 s := by
  unfold acc0 acctC
  rw [limb_zero, limb_zero, limb_zero, limb_zero]
 rw [e]
 exact World.rowIs_alloc w (acctC r9 0 s) 34 (fun i => (acctC r9 0 s).getD i undef) (fun i hi => by rw [Array.getD_eq_getD_getElem?, Array.getElem?_eq_getElem hi]; rfl)
theorem TW.kb {S : List Nat} {w x y : World} {na nb' nc : Nat} (h : TW w na nb' nc x) (hk : Kb S x y) (hn : ∀ b T N (f : Nat → Value), (T = 24 ∨ T = 9 ∨ T = 5) → x.rowIs b T N f → b ∉ S) :
  wrow y w.heap.size na ∧ wrow y (w.heap.size + 1) nb' ∧ wrow y (w.heap.size + 1 + 1) nc ∧ y.rowIs (w.heap.size + 1 + 1 + 1 + 1) 5 25 opC :=
 ⟨hk.row h.ra (hn _ _ _ _ (Or.inl rfl) h.ra), hk.row h.rb (hn _ _ _ _ (Or.inl rfl) h.rb), hk.row h.rc (hn _ _ _ _ (Or.inl rfl) h.rc), hk.row h.ro (hn _ _ _ _ (Or.inr (Or.inr rfl)) h.ro)⟩
theorem HostAt.below {gb ab n : Nat} {A : Nat → Acc} {sb : Nat → Value} {x y : World} (h : HostAt gb ab n A sb x) (hb : Below x.heap.size x y) : HostAt gb ab n A sb y := ⟨row_below h.row hb, h.acc.kb (Kb.of_below (S := []) hb) (by simp), h.zr.below hb⟩
theorem host_not {gb ab n : Nat} {A : Nat → Acc} {sb : Nat → Value} {x : World} (h : HostAt gb ab n A sb x) {S2 : List Nat} (h2 : ∀ k ∈ S2, Afoot ab A sb k) : ∀ b T N (f : Nat → Value), (T = 24 ∨ T = 9 ∨ T = 5) → x.rowIs b T N f → b ∉ gb :: S2 := fun b T N f hT hr hm => by
 rcases List.mem_cons.1 hm with e | e
 ·refine row_row_ne hr h.row ?_ e
  rcases hT with rfl | rfl | rfl <;> decide
 ·exact row_map_ne hr (h.acc.isMap (h2 _ e)) rfl
end
section
open Go.RowKit Go.Maps
set_option maxRecDepth 100000
theorem oneA_code (s : ByteArray) : (oneA 9 0 s 9).code = s := by
 unfold oneA
 rw [setA_at rfl]
theorem oneA_bal (s : ByteArray) (m : Nat) : (oneA 9 0 s m).bal = 0 := by
 unfold oneA setA
 split <;> rfl
abbrev mT (s : ByteArray) : TS := moveT (T0 (oneA 9 0 s)) 0 1 9
theorem mT_ch (s : ByteArray) : (mT s).ch.length < 1000 := by
 have : (mT s).ch.length = 2 := rfl
 omega
theorem mT_logs (s : ByteArray) (v : Nat) : (setT (mT s) 1 9 1 v).logs = [] := rfl
abbrev ansS (na nb' nc k : Nat) : ByteArray := ⟨(bys (fcalc (opsL.getD k 0) (na % M) (nb' % M) (nc % M)) 0).toArray⟩
theorem told_send {na nb' nc k r1 r8 r9 gb ab n : Nat} {sb : Nat → Value} {s : ByteArray} (hk : k < 25) (hs : bl s = codeL na nb' nc k) (h1 : r1 = 1) (h8 : r8 = 9) (h9 : r9 = 9) (hs1 : s.size ≤ 1000) (hn : n ≤ 2) (w : World) (h : HostAt gb ab n (oneA r9 0 s) sb w) :
  Calls Tryz.prog 13 #[.pointer (some ⟨gb, 0, none⟩), .agg #[.int .u64 (limb r1 0), .int .u64 (limb r1 1), .int .u64 (limb r1 2), .int .u64 (limb r1 3), .int .u64 (limb r8 0), .int .u64 (limb r8 1), .int .u64 (limb r8 2), .int .u64 (limb r8 3), .int .u64 0, .int .u64 0, .int .u64 0, .int .u64 0, .string ⟨#[]⟩, .int .i64 10000]] w fun e w' => ∃ g : Nat, 0 < g ∧ g < 10000 ∧ e = .returned (.tuple #[resV 0 g (ansS na nb' nc k) noL, .int .i64 0]) ∧ ∃ S2, Kb (gb :: S2) w w' ∧ ∀ k ∈ S2, Afoot ab (oneA r9 0 s) sb k := by
 subst h1 h8 h9
 obtain ⟨g, hg1, hg2, hc⟩ := told_chain (a := na % M) (b := nb' % M) (c := nc % M) (op := opsL.getD k 0) (s := s) hs (op_ok hk).1
 simp only [Nat.mod_mod] at hc
 have hd := send_done (rg := g) (ro := ansS na nb' nc k) (T' := setT (mT s) 1 9 1 (fcalc (opsL.getD k 0) (na % M) (nb' % M) (nc % M))) (k := 16) 1 9 0 10000 ⟨#[]⟩ w h (by decide) (by decide) (by rw [oneA_bal]; decide) (by rw [oneA_code]; exact hs1) (fun tb jd => by
  rw [oneA_code]
  exact hc tb jd (mT s) (mT_ch s)) (mT_logs s _) (by omega)
 unfold msgV msgC at hd
 simp only [limb_zero] at hd
 refine hd.mono ?_
 rintro e w' ⟨h1, h2, h3⟩
 exact ⟨g, hg1, hg2, h1, h3⟩
end
section
open Go.RowKit
variable {ops : Array Oper} {Q : Exit → Act → World → Prop}
theorem GP.upd2 {Ph : Nat → World → Prop} {tab : Tb} {calls : List Nat} {a : Act} {l : Array Bool} {s : Act} {x : World} {k : Nat}
  (G : GP ops Ph tab calls a l s x k) (hnd : (slotsOf tab).Nodup) (hlt : ∀ d, d ∈ slotsOf tab → d < a.tmps.size)
  {i : Nat} {d : Option Nat} {T : Kn} {v : Value} {x' : World} {k' : Nat} (hi : i < l.size) (hdv : tab[i]? = some (d, T))
  (hcl : ∀ i' j, (l.setIfInBounds i true).getD i' false = true → depB ops i' j = true → (l.setIfInBounds i true).getD j false = true) (hcnt : ∀ (p c : Nat), calls[p]? = some c → ((l.setIfInBounds i true).getD c false = true ↔ p < k')) (hkle : k' ≤ calls.length) (hF : Ph k' x') (hv : d = none → v = undef) (hT : T (k', undef) [] v x')
  (hst : ∀ (j : Nat) (dj : Option Nat) (Tj : Kn), tab[j]? = some (dj, Tj) → j ≠ i → Tj (k, undef) [] (valq s dj) x → Tj (k', undef) [] (valq s dj) x') : GP ops Ph tab calls a (l.setIfInBounds i true) (s.put d v) x' k' := by
 have hds : ∀ e, d = some e → e < s.tmps.size := fun e he => by rw [G.sz]; exact hlt e (mem_slots (by rw [hdv, he]))
 have hother : ∀ (j : Nat) (dj : Option Nat) (Tj : Kn), tab[j]? = some (dj, Tj) → j ≠ i → valq (s.put d v) dj = valq s dj := fun j dj Tj hj hne => by
  cases dj with
  | none => rfl
  | some e =>
   refine valq_put s d v e fun e' he' => ⟨hds e' he', fun h => ?_⟩
   subst h
   exact hne (nodup_q tab hnd j i e' Tj T hj (by rw [hdv, he']))
 refine ⟨hcnt, hkle, hF, ?_, ?_, fun j hj => ?_, fun j dj Tj hj hl => ?_, hcl⟩
 ·cases d with
  | none => exact G.sz
  | some e => rw [put_size]; exact G.sz
 ·cases d with
  | none => exact G.df
  | some e => rw [put_defers]; exact G.df
 ·rw [← G.out j hj]
  exact valq_put s d v j fun e he => ⟨hds e he, fun h => hj (h ▸ mem_slots (by rw [hdv, he]))⟩
 ·by_cases e : j = i
  ·subst e
   rw [hdv] at hj
   obtain ⟨rfl, rfl⟩ := Prod.mk.inj (Option.some.inj hj)
   cases d with
   | none => rw [hv rfl] at hT; exact hT
   | some e =>
    have : valq (s.put (some e) v) (some e) = v := by
     show (s.put (some e) v).tmps.getD e undef = v
     rw [put_getD _ _ _ _ (hds e rfl), if_pos rfl]
    rw [this]; exact hT
  ·rw [get_set l i j hi, if_neg (fun h => e h.symm)] at hl
   rw [hother j dj Tj hj e]
   exact hst j dj Tj hj e (G.kn j dj Tj hj hl)
theorem wp_region_pa {id : Nat} {a : Act} {w : World} (hm : Tryz.prog.follows .mixedOrders = true) (hdown : downB ops = true) (Ph : Nat → World → Prop) (Rel : Nat → Act → World → World → Prop) (tab : Tp) (calls : List Nat)
  (hlen : tab.length = ops.size) (hnd : decide (slotsOf (tbp tab)).Nodup = true) (hlt0 : ((slotsOf (tbp tab)).all fun d => decide (d < a.tmps.size)) = true) (h0 : Ph 0 w.drew)
  (bas : List (Nat × Value)) (hbas : ∀ p ∈ bas, a.tmps.getD p.1 undef = p.2) (hapart : (bas.all fun p => !(slotsOf (tbp tab)).contains p.1) = true)
  (hchain : ((List.range (calls.length - 1)).all fun q => ancB ops 3 (calls.getD (q + 1) 0) (calls.getD q 0)) = true) (hcn : decide calls.Nodup = true) (hcl : (calls.all fun c => decide (c < ops.size)) = true)
  (hstab : ∀ (j : Nat) (d : Option Nat) (T : Kp), tab[j]? = some (d, T) → ∀ p s x x', calls[p]? ≠ some j → p < calls.length → Ph p x → Rel p s x x' → T p (valq s d) x → T (p + 1) (valq s d) x')
  (hst2 : ∀ (j : Nat) (d : Option Nat) (T : Kp), tab[j]? = some (d, T) → ∀ p v x x', Ph p x → Below x.heap.size x x' → T p v x → T p v x')
  (hpure : ∀ (i : Nat) (o : Oper) (d : Option Nat) (T : Kp), ops[i]? = some o → tab[i]? = some (d, T) → i ∉ calls → ∀ k s x, k ≤ calls.length → (∀ q c, calls[q]? = some c → ancB ops 3 i c = true → q < k) → (∀ q c, calls[q]? = some c → ancB ops 3 c i = true → k ≤ q) → Ph k x → s.defers = a.defers → (∀ p ∈ bas, s.tmps.getD p.1 undef = p.2) →
   (∀ e ∈ o.after, Region.binds .any e = true → ∀ (d' : Option Nat) (T' : Kp), tab[e.on]? = some (d', T') → T' k (valq s d') x) →
   (Region.wanted o (yielded ops s.tmps) = true ∧ ∀ K : Act → World → Prop, (∀ v x', Ph k x' → Below x.heap.size x x' → (d = none → v = undef) → T k v x' → K (s.put d v) x') → Oper.wp Tryz.prog o s x K Q))
  (himp : ∀ (p i : Nat) (o : Oper) (d : Option Nat) (T : Kp), calls[p]? = some i → ops[i]? = some o → tab[i]? = some (d, T) → ∀ s x, Ph p x → s.defers = a.defers → (∀ p ∈ bas, s.tmps.getD p.1 undef = p.2) →
   (∀ e ∈ o.after, Region.binds .any e = true → ∀ (d' : Option Nat) (T' : Kp), tab[e.on]? = some (d', T') → T' p (valq s d') x) →
   (Region.wanted o (yielded ops s.tmps) = true ∧ ∀ K : Act → World → Prop, (∀ v x', Ph (p + 1) x' → Rel p s x x' → (d = none → v = undef) → T (p + 1) v x' → K (s.put d v) x') → Oper.wp Tryz.prog o s x K Q))
  (hdone : ∀ (vs : List Value) x, Ph calls.length x → vs.length = tab.length → (∀ (i : Nat) (d : Option Nat) (T : Kp), tab[i]? = some (d, T) → T calls.length (vs.getD i undef) x) → Q .normal (fill a (zipq (tbp tab) vs)) x) :
  (Code.region id ops true).wp Tryz.prog Q a w := by
 have hnd := of_decide_eq_true hnd
 have hcn := of_decide_eq_true hcn
 have hlt : ∀ d, d ∈ slotsOf (tbp tab) → d < a.tmps.size := fun d hd => of_decide_eq_true (List.all_eq_true.1 hlt0 d hd)
 have hap : ∀ p ∈ bas, p.1 ∉ slotsOf (tbp tab) := fun p hp hm => by
  have := List.all_eq_true.1 hapart p hp
  simp only [Bool.not_eq_true', List.contains_eq_mem, decide_eq_false_iff_not] at this
  exact this hm
 have hlen2 : (tbp tab).length = ops.size := by unfold tbp; simpa using hlen
 refine wp_region_st hm hdown (fun l s x => ∃ k, GP ops Ph (tbp tab) calls a l s x k) ?_ ?_ ?_
 ·have hrep : ∀ j, (Array.replicate ops.size false).getD j false = false := fun j => by
   rw [Array.getD_eq_getD_getElem?, Array.getElem?_replicate]
   split <;> rfl
  exact ⟨0, ⟨fun p c _ => (by rw [hrep]; simp), Nat.zero_le _, h0, rfl, rfl, fun _ _ => rfl, fun i d T _ hl => (by rw [hrep] at hl; cases hl), fun i j hl => (by rw [hrep] at hl; cases hl)⟩⟩
 ·rintro l i o hls ho hnl hdep s x ⟨k, G⟩
  have hio : i < ops.size := (Array.getElem?_eq_some_iff.1 ho).1
  have hil : i < l.size := by omega
  obtain ⟨⟨d, U⟩, hdu⟩ : ∃ p, tab[i]? = some p := ⟨_, List.getElem?_eq_getElem (by omega)⟩
  have hdv := tbp_mk hdu
  have hb' : ∀ p ∈ bas, s.tmps.getD p.1 undef = p.2 := fun p hp => (G.out p.1 (hap p hp)).trans (hbas p hp)
  have hdp : ∀ e ∈ o.after, Region.binds .any e = true → ∀ (d' : Option Nat) (T' : Kp), tab[e.on]? = some (d', T') → T' k (valq s d') x := fun e he hb d' T' h => G.kn _ _ _ (tbp_mk h) (hdep e he hb)
  have hdj : ∀ j, depB ops i j = true → l.getD j false = true := fun j hj => by
   obtain ⟨e, he, hb, hon⟩ := depB_of ho hj
   exact hon ▸ hdep e he hb
  have hcl2 : ∀ i' j, (l.setIfInBounds i true).getD i' false = true → depB ops i' j = true → (l.setIfInBounds i true).getD j false = true := fun i' j h1 h2 => by
   rw [get_set l i j hil]
   by_cases e : i = j
   ·rw [if_pos e]
   ·rw [if_neg e]
    rw [get_set l i i' hil] at h1
    by_cases e2 : i = i'
    ·subst e2; exact hdj j h2
    ·rw [if_neg e2] at h1; exact G.cl i' j h1 h2
  refine wpOp_step ho fun K hK => ?_
  by_cases hic : i ∈ calls
  ·obtain ⟨p, hp⟩ := List.getElem?_of_mem hic
   have hkp : k = p := by
    have h1 : ¬ p < k := fun h => by rw [(G.cnt p i hp).2 h] at hnl; cases hnl
    cases p with
    | zero => omega
    | succ q =>
     have hq2 : q < calls.length := by have := (List.getElem?_eq_some_iff.1 hp).1; omega
     have h2 := List.all_eq_true.1 hchain q (List.mem_range.2 (by have := (List.getElem?_eq_some_iff.1 hp).1; omega))
     rw [List.getD_eq_getElem?_getD, hp, Option.getD_some] at h2
     have h3 := anc_of G.cl 3 i _ hdj h2
     rw [List.getD_eq_getElem?_getD, List.getElem?_eq_getElem hq2, Option.getD_some] at h3
     have h4 := (G.cnt q _ (List.getElem?_eq_getElem hq2)).1 h3
     omega
   subst hkp
   have hkl := (List.getElem?_eq_some_iff.1 hp).1
   obtain ⟨hw, hrun⟩ := himp k i o d U hp ho hdu s x G.ph G.df hb' hdp
   rw [if_pos hw]
   refine hrun K fun v x' hF' hr hv hT => hK _ _ ⟨k + 1, G.upd2 hnd hlt hil hdv hcl2 (fun q c hqc => ?_) (by omega) hF' hv hT (fun j dj Tj hj hne hu => ?_)⟩
   ·rw [get_set l i c hil]
    by_cases e : i = c
    ·subst e
     have : q = k := (List.getElem?_inj (List.getElem?_eq_some_iff.1 hqc).1 hcn).1 (hqc.trans hp.symm)
     subst this
     simp
    ·rw [if_neg e, G.cnt q c hqc]
     have : q ≠ k := fun h => e (by subst h; rw [hp] at hqc; exact Option.some.inj hqc)
     omega
   ·obtain ⟨Uj, h1, rfl⟩ := tbp_at hj
    exact hstab j dj Uj h1 k s x x' (fun h => hne (Option.some.inj (h.symm.trans hp))) hkl G.ph hr hu
  ·have hcnt' : ∀ (p c : Nat), calls[p]? = some c → ((l.setIfInBounds i true).getD c false = true ↔ p < k) := fun p c hpc => by
    rw [get_set l i c hil, if_neg (fun h => hic (by rw [h]; exact List.mem_of_getElem? hpc))]
    exact G.cnt p c hpc
   obtain ⟨hw, hrun⟩ := hpure i o d U ho hdu hic k s x G.kle (fun q c hq ha => (G.cnt q c hq).1 (anc_of G.cl 3 i c hdj ha)) (fun q c hq ha => Nat.le_of_not_lt fun hlt => by
    have h1 := (G.cnt q c hq).2 hlt
    rw [anc_of G.cl 3 c i (fun j hj => G.cl c j h1 hj) ha] at hnl
    cases hnl) G.ph G.df hb' hdp
   rw [if_pos hw]
   exact hrun K fun v x' hP hS hv hT => hK _ _ ⟨k, G.upd2 hnd hlt hil hdv hcl2 hcnt' G.kle hP hv hT (fun j dj Tj hj hne hu => by
    obtain ⟨Uj, h1, rfl⟩ := tbp_at hj
    exact hst2 j dj Uj h1 k _ x x' G.ph hS hu)⟩
 ·rintro l s x hls hall ⟨k, G⟩
  have hk : k = calls.length := by
   refine Nat.le_antisymm G.kle (Nat.le_of_not_lt fun h => ?_)
   have h1 := List.getElem?_eq_getElem h
   have h2 := (G.cnt k _ h1).1 (hall _ (of_decide_eq_true (List.all_eq_true.1 hcl _ (List.getElem_mem h))))
   omega
  subst hk
  have hmemt : ∀ p ∈ (slotsOf (tbp tab)).map (fun d => (d, s.tmps.getD d undef)), p.1 < a.tmps.size := fun p hp => by
   obtain ⟨d, hd, rfl⟩ := List.mem_map.1 hp
   exact hlt d hd
  have hfst : ((slotsOf (tbp tab)).map (fun d => (d, s.tmps.getD d undef))).map Prod.fst = slotsOf (tbp tab) := by simp [List.map_map, Function.comp_def]
  have e : s = fill a (zipq (tbp tab) ((tbp tab).map fun p => valq s p.1)) := by
   rw [zipq_map]
   refine act_ext (by rw [fill_size, G.sz]) (by rw [fill_defers, G.df]) fun k _ => ?_
   by_cases hk : k ∈ slotsOf (tbp tab)
   ·rw [fill_in _ a k (s.tmps.getD k undef) hmemt (by rw [hfst]; exact hnd) (List.mem_map.2 ⟨k, hk, rfl⟩)]
   ·rw [G.out k hk, fill_out _ a k hmemt fun p hp e => hk (by obtain ⟨d, hd, rfl⟩ := List.mem_map.1 hp; exact e ▸ hd)]
  have hat : ∀ (i : Nat) (d : Option Nat) (T : Kp), tab[i]? = some (d, T) → ((tbp tab).map fun p => valq s p.1).getD i undef = valq s d := fun i d T h => by rw [List.getD_eq_getElem?_getD, List.getElem?_map, tbp_mk h]; rfl
  have hli : ∀ (i : Nat) (d : Option Nat) (T : Kp), tab[i]? = some (d, T) → l.getD i false = true := fun i d T h => hall i (by rw [← hlen]; exact (List.getElem?_eq_some_iff.1 h).1)
  have h := hdone ((tbp tab).map fun p => valq s p.1) x G.ph (by simp [tbp]) (fun i d T h => by rw [hat i d T h]; exact G.kn i d _ (tbp_mk h) (hli i d T h))
  rwa [← e] at h
end
end cin
end Go.Proofs.YtohoajjdoihekaaGreatDoor
