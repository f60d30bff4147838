/-
  A text into code, the document's way.
-/
import Derived.Test.YtohoajjdoihekaaDoorTzi
import Derived.Test.YtohoajjdoihekaaDoorTzh
set_option linter.unusedVariables false
set_option linter.unusedSimpArgs false
namespace Go.Proofs.YtohoajjdoihekaaDoor
open Go.RowKit Go.Lib
namespace cin
theorem info_label : (Tryd.prog.info? 47).map (fun i => (i.zero, i.size, i.bytes)) = some (some (.agg #[.string ⟨#[]⟩, .int .i64 0]), 2, 24) := by kernel_rfl
theorem laidV_1 (n : ByteArray) (c : List UInt8) : laidV ⟨1, n, c, 0⟩ = .tuple #[.string ⟨c.toArray⟩, .string n, .string ⟨#[]⟩, .int .i64 0] := rfl
theorem laidV_2 (n : ByteArray) (c : List UInt8) : laidV ⟨2, n, c, 0⟩ = .tuple #[.string ⟨c.toArray⟩, .string ⟨#[]⟩, .string n, .int .i64 0] := rfl
theorem laidV_0 (n : ByteArray) (c : List UInt8) : laidV ⟨0, n, c, 0⟩ = .tuple #[.string ⟨c.toArray⟩, .string ⟨#[]⟩, .string ⟨#[]⟩, .int .i64 0] := rfl
theorem laidV_t (n : ByteArray) (c : List UInt8) : laidV ⟨0, n, c, 2⟩ = .tuple #[.string ⟨c.toArray⟩, .string ⟨#[]⟩, .string ⟨#[]⟩, .int .i64 1] := rfl
theorem laidV_b (n : ByteArray) (c : List UInt8) : laidV ⟨0, n, c, 4⟩ = .tuple #[.string ⟨c.toArray⟩, .string ⟨#[]⟩, .string ⟨#[]⟩, .int .i64 2] := rfl
theorem laidV_n {i : It} (h : i.k ≠ 1) : ∃ (q : ByteArray) (e : Int), laidV i = .tuple #[.string ⟨i.cd.toArray⟩, .string ⟨#[]⟩, .string q, .int .i64 e] := by
  unfold laidV
  rw [if_neg h]
  exact ⟨_, _, rfl⟩
theorem bl_ask (q : Nat) : bl ⟨#[97, UInt8.ofNat (q / 256 % 256), UInt8.ofNat (q % 256)]⟩ = [97, UInt8.ofNat (q / 256), UInt8.ofNat (q % 256)] := by
  have e : UInt8.ofNat (q / 256 % 256) = UInt8.ofNat (q / 256) := by
    apply UInt8.toNat_inj.1
    rw [UInt8.toNat_ofNat', UInt8.toNat_ofNat']
    exact Nat.mod_mod _ _
  rw [e]
  rfl
theorem asV_e {s : ByteArray} {e a : Nat} (h : asm s = (⟨#[]⟩, e, a)) : asmV s = .tuple #[.string ⟨#[]⟩, .int .i64 (e : Int), .int .i64 (a : Int)] := by unfold asmV; rw [h]
set_option maxRecDepth 100000 in
set_option maxHeartbeats 16000000 in
theorem rAssemble_any (s : ByteArray) (w : World) : Calls Tryd.prog 5 #[.string s] w fun e w' => e = .returned (asmV s) ∧ Below w.heap.size w w' := by
  obtain ⟨i0, hi0, hz0, hz1, hz2⟩ := info_parts info_label
  have HI := hid_of (And.intro hi0 (And.intro hz0 (And.intro hz1 hz2)))
  clear hi0 hz0 hz1 hz2
  by_cases hs : 2000 < s.size
  · have HR := hid_of (asm_long hs)
    have hd : decide ((2000 : Int) < (s.size : Int)) = true := decide_eq_true (by omega)
    go_enter Tryd.func5, Tryd.ntmps5
    go_wp2
    refine bodyPost_ret (v := asmV s) ?_ rfl ⟨rfl, Below.refl _ _⟩
    unfold asmV
    rw [HR.out]
    simp [results, Tryd.results5, go_sem]
  · have hsz : s.size ≤ 2000 := by omega
    have hd : decide ((2000 : Int) < (s.size : Int)) = false := decide_eq_false (by omega)
    cases hc : (cnt s).2
    · have HR := hid_of (asm_torn hsz hc)
      have HIT : Hid (∀ w, Calls Tryd.prog 11 #[.string s] w fun e w' => ∃ v, e = .returned (.tuple #[v, .int .i64 ((cnt s).1 : Int), .bool false]) ∧ Below w.heap.size w w') := fun w => (items_any s hsz w).mono fun e w' ⟨v, h1, h2, h3⟩ => ⟨v, by rw [h1, hc], h3⟩
      go_enter Tryd.func5, Tryd.ntmps5
      go_wp2_with fail
      refine (HIT.out _).mono ?_
      rintro e w1 ⟨v, rfl, hb1⟩
      go_wp2
      refine bodyPost_ret (v := asmV s) ?_ rfl ⟨rfl, hb1⟩
      unfold asmV
      rw [HR.out]
      simp [results, Tryd.results5, go_sem]
    · have hwh : Hid (Whole s) := whole_cnt hc
      have HIT : Hid (∀ w, Calls Tryd.prog 11 #[.string s] w fun e w' => ∃ v, e = .returned (.tuple #[v, .int .i64 ((cnt s).1 : Int), .bool true]) ∧ w'.ownsRow w.heap.size 45 2 v (spl s).length (cells2 (spl s)) ∧ Below w.heap.size w w') := fun w => (items_any s hsz w).mono fun e w' ⟨v, h1, h2, h3⟩ => ⟨v, by rw [h1, hc], h2 hc, h3⟩
      have HFAULT := hid_of (fun (e a : Nat) hr => asm_fault hsz hc (e := e) (a := a) hr)
      have HBIG := hid_of (fun (c : List UInt8) hr hb => asm_big hsz hc (c := c) hr hb)
      have HCODE := hid_of (fun (c : List UInt8) hr hb => asm_code hsz hc (c := c) hr hb)
      have HLB := hid_of (labs_le hsz hwh.out)
      have HL : Hid ((spl s).length ≤ 2001) := Nat.le_trans (spl_len s) (by omega)
      have HFT := hid_of (spl_fit hwh.out)
      have HRL : Hid (rlist s = rit (spl s) 0) := rfl
      have HRN : Hid ((rlist s).length = (spl s).length) := rit_len _ _
      clear hc
      go_enter Tryd.func5, Tryd.ntmps5
      go_wp2_with fail
      refine (HIT.out _).mono ?_
      rintro e w1 ⟨v, rfl, hown, hb1⟩
      obtain ⟨rc, HRC⟩ : ∃ rc, Hid (rc = (cnt s).1) := ⟨_, rfl⟩
      rw [← HRC.out] at HBIG ⊢
      have hrc : rc ≤ 2000 := by rw [HRC.out]; exact Nat.le_trans (cnt_le s) hsz
      obtain ⟨L, HLL⟩ : ∃ L, Hid (L = spl s) := ⟨_, rfl⟩
      rw [← HLL.out] at hown HL HFT HRL HRN
      clear HIT HLL
      have HB1 := hid_of hb1
      have HOW1 := hid_of hown
      have hL := HL.out
      clear hb1
      rcases hown.2 with ⟨rfl, hn⟩ | ⟨g, cap, cur, rfl, _⟩
      · have HE : Hid (asm s = (⟨#[]⟩, 0, 0)) := HCODE.out [] (by rw [HRL.out, List.length_eq_zero_iff.1 hn]; rfl) (by decide)
        clear HFAULT HBIG HCODE HLB HFT HRL HRN hown
        go_wp2
        go_loopw [10] (fun t10 wr => t10 = .int .i64 0 ∧ Hid (wr = w1)) (fun _ _ => 0)
        case atStart => exact ⟨rfl, rfl⟩
        case round =>
          obtain ⟨rfl, HW⟩ := hrel
          go_wp2
          go_loopw [15, 16] (fun t15 t16 wq => t15 = .string ⟨#[]⟩ ∧ t16 = .int .i64 0 ∧ Hid (wq = wr)) (fun _ _ _ => 0)
          case atStart => exact ⟨rfl, rfl, rfl⟩
          case round =>
            obtain ⟨rfl, rfl, HW2⟩ := hrel
            go_wp2
            refine bodyPost_ret (v := asmV s) ?_ rfl ⟨rfl, by rw [HW2.out, HW.out]; exact HB1.out⟩
            unfold asmV
            rw [HE.out]
            simp [results, Tryd.results5, go_sem]
      · clear hown
        go_wp2
        go_loopw [8, 9, 10] (fun t8 t9 t10 wr => ∃ (j sz : Nat) (ls : List (ByteArray × Nat)), t10 = .int .i64 (j : Int) ∧ t9 = .int .i64 (sz : Int) ∧ wr.ownsRow w1.heap.size 47 2 t8 ls.length (cells2 ls) ∧ Below w1.heap.size w1 wr ∧ j ≤ L.length ∧ ls.length ≤ j ∧ sz ≤ 33 * j ∧ Hid (Lbs (rlist s) j ls) ∧ Hid ((rlist s).drop j = rit (L.drop j) sz)) (fun _ _ t10 _ => L.length - (intOf t10).toNat)
        case atStart => exact ⟨0, 0, [], rfl, rfl, World.ownsRow_nil _ _ _ _, Below.refl _ _, by omega, by show 0 ≤ 0; omega, by omega, fun t => rfl, HRL.out⟩
        case round =>
          obtain ⟨j, sz, ls, rfl, rfl, how, hbe, hj, hls, hsz3, HLS, HDR⟩ := hrel
          have HOW := hid_of how
          have HBE := hid_of hbe
          clear how hbe
          by_cases hlt : j < L.length
          · obtain ⟨x, HX⟩ : ∃ x : ByteArray × Nat, Hid (x = L[j]) := ⟨L[j], hid_of rfl⟩
            have hc1 := ((ownsRow_below HOW1.out HBE.out).cellAt (j * 2) (by omega)).trans (cells2_at L j hlt).1
            obtain ⟨f1, f2, f3, f4⟩ := HFT.out (L[j]) (List.getElem_mem hlt)
            have HLD := hid_of (laid_any (L[j]).1 (Nat.le_trans f3 hsz) f2)
            rw [← HX.out] at hc1 HLD
            obtain ⟨hd1, hd2⟩ := rl_at hlt HX.out HDR.out
            have HD1 := hid_of hd1
            have HD2 := hid_of hd2
            have hcdl := itm_len x.1
            have hcs := itm_cases x.1
            obtain ⟨it, HITM⟩ : ∃ it, Hid (it = itm x.1) := ⟨_, rfl⟩
            rw [← HITM.out] at HLD HD1 HD2 hcdl hcs
            clear hd1 hd2 f1 f2 f3 f4 HDR
            obtain ⟨B, HBB⟩ : ∃ B : ByteArray, Hid (B = ⟨it.cd.toArray⟩) := ⟨_, rfl⟩
            have hBs : B.size = it.cd.length := by rw [HBB.out]; rfl
            by_cases hk : it.k = 1
            · obtain ⟨n, c, hie, hne⟩ : ∃ n c, it = ⟨1, n, c, 0⟩ ∧ n.toList.isEmpty = false := by
                rcases hcs with h | ⟨n, h, _⟩ | ⟨c, h⟩ | h | h
                · exact h
                · rw [h] at hk; cases hk
                · rw [h] at hk; cases hk
                · rw [h] at hk; cases hk
                · rw [h] at hk; cases hk
              subst hie
              rw [laidV_1, ← HBB.out] at HLD
              clear HBB hcs hk HITM
              have hcl : c.length ≤ 33 := hcdl
              have hBs2 : B.size = c.length := hBs
              have HD3 : Hid ((rlist s).drop (j + 1) = rit (L.drop (j + 1)) (sz + c.length)) := HD2.out
              clear hcdl hBs HD2
              cases hq : llk n ls with
              | none =>
                have HF : Hid (∀ w', w'.ownsRow w1.heap.size 47 2 u8 ls.length (cells2 ls) → Calls Tryd.prog 13 #[u8, .string n] w' fun e w'' => e = .returned (.int .i64 (-1)) ∧ w'' = w') := fun w' h => by have h2 := find_any ls n _ _ (by omega) w' h; rw [hq] at h2; exact h2
                have HNEW : Hid (Lbs (rlist s) (j + 1) (ls ++ [(n, sz)])) := Lbs.new HLS.out HD1.out rfl
                clear hq
                go_wp2_with fail
                refine (HLD.out _).mono ?_
                rintro e w4 ⟨rfl, hb4⟩
                have HOW4 := hid_of (ownsRow_below HOW.out hb4)
                have HBE4 := hid_of (bcall HBE.out hb4)
                clear hb4
                go_wp2_with fail
                refine (HF.out _ HOW4.out).mono ?_
                rintro e w4 ⟨rfl, rfl⟩
                go_wp2_with (at_builtin; obtain ⟨hi0, hz0, hz1, hz2⟩ := HI.out; refine wpList_append_own _ rfl _ _ 41 rfl w1.heap.size 47 i0 (.agg #[.string ⟨#[]⟩, .int .i64 0]) 2 24 (by kernel_rfl) hi0 hz0 hz1 hz2 rfl (by decide) _ _ _ rfl (HOW4.out.alloc _) _ 1 1 [.string n, .int .i64 (sz : Int)] rfl rfl (lit_cells _ #[.string n, .int .i64 (sz : Int)] 47) (by intro u hu; simp at hu; rcases hu with rfl | rfl <;> rfl) (by unfold maxLen; omega) (by omega) (by have := HBE4.out.size; simp; omega) ?_; intro v' w5 ho3 hgr _; obtain ⟨g', cap', rfl, hg1', hg2', hg3'⟩ := own_shape ho3 (by omega); have HGR := hid_of hgr; have HO3 := hid_of ho3; clear hgr ho3 hi0 hz0 hz1 hz2 hg1' hg2' hg3')
                go_roundw
                case rel => exact ⟨j + 1, sz + c.length, ls ++ [(n, sz)], by go_num, by go_num, by rw [List.length_append, cells2_snoc]; exact HO3.out, (bal HBE4.out _).grown HGR.out (by have := HBE4.out.size; simp; omega) (own_low0 HOW4.out), by omega, by rw [List.length_append]; show _ + 1 ≤ _; omega, by omega, HNEW, HD3⟩
                case measure => simp [intOf]; omega
              | some q =>
                have HF : Hid (∀ w', w'.ownsRow w1.heap.size 47 2 u8 ls.length (cells2 ls) → Calls Tryd.prog 13 #[u8, .string n] w' fun e w'' => e = .returned (.int .i64 (q : Int)) ∧ w'' = w') := fun w' h => by have h2 := find_any ls n _ _ (by omega) w' h; rw [hq] at h2; exact h2
                have HTH : Hid (Lbs (rlist s) (j + 1) ls) := Lbs.there HLS.out HD1.out hq
                clear hq
                go_wp2_with fail
                refine (HLD.out _).mono ?_
                rintro e w4 ⟨rfl, hb4⟩
                have HOW4 := hid_of (ownsRow_below HOW.out hb4)
                have HBE4 := hid_of (bcall HBE.out hb4)
                clear hb4
                go_wp2_with fail
                refine (HF.out _ HOW4.out).mono ?_
                rintro e w4 ⟨rfl, rfl⟩
                go_wp2
                go_roundw
                case rel => exact ⟨j + 1, sz + c.length, ls, by go_num, by go_num, HOW4.out, HBE4.out, by omega, by omega, by omega, HTH, HD3⟩
                case measure => simp [intOf]; omega
            · obtain ⟨qa, qe, hlv⟩ := laidV_n hk
              rw [hlv, ← HBB.out] at HLD
              have HNO : Hid (Lbs (rlist s) (j + 1) ls) := Lbs.no HLS.out HD1.out hk
              clear HBB hcs hk HITM hlv
              go_wp2_with fail
              refine (HLD.out _).mono ?_
              rintro e w4 ⟨rfl, hb4⟩
              have HOW4 := hid_of (ownsRow_below HOW.out hb4)
              have HBE4 := hid_of (bcall HBE.out hb4)
              clear hb4
              go_wp2
              go_roundw
              case rel => exact ⟨j + 1, sz + it.cd.length, ls, by go_num, by go_num, HOW4.out, HBE4.out, by omega, by omega, by omega, HNO, HD2⟩
              case measure => simp [intOf]; omega
          · obtain ⟨w2, hw2⟩ : ∃ w2, w2 = wr := ⟨_, rfl⟩
            subst hw2
            have HLF := hid_of (HLS.out.all (by rw [HRN.out]; omega))
            clear HLS HDR
            have HOW5 := hid_of (ownsRow_below HOW1.out HBE.out)
            go_wp2
            go_loopw [15, 16] (fun t15 t16 wq => ∃ (i : Nat) (X : ByteArray), t16 = .int .i64 (i : Int) ∧ t15 = .string X ∧ Below w2.heap.size w2 wq ∧ i ≤ L.length ∧ X.size ≤ 33 * i ∧ Hid ((rlist s).drop i = rit (L.drop i) X.size) ∧ Hid (rn2 (labs s) ((rlist s).drop i) (bl X) = rn2 (labs s) (rlist s) [])) (fun _ t16 _ => L.length - (intOf t16).toNat)
            case atStart => exact ⟨0, ⟨#[]⟩, rfl, rfl, Below.refl _ _, by omega, by show 0 ≤ _; omega, HRL.out, rfl⟩
            case round =>
              obtain ⟨i, X, rfl, rfl, hbq, hi, hXs, HDR, HRR⟩ := hrel
              have HBQ := hid_of hbq
              clear hbq
              by_cases hlt2 : i < L.length
              · obtain ⟨x, HX⟩ : ∃ x : ByteArray × Nat, Hid (x = L[i]) := ⟨L[i], hid_of rfl⟩
                have how6 := ownsRow_below HOW5.out HBQ.out
                have hc1 := (how6.cellAt (i * 2) (by omega)).trans (cells2_at L i hlt2).1
                have HC2 : Hid (∀ w4, Below wr.heap.size wr w4 → w4.cell? ⟨g, i * 2 + 1, none⟩ = some (.int .i64 (x.2 : Int))) := fun w4 h => by rw [HX.out]; exact ((ownsRow_below how6 h).cellAt (i * 2 + 1) (by omega)).trans (cells2_at L i hlt2).2
                obtain ⟨f1, f2, f3, f4⟩ := HFT.out (L[i]) (List.getElem_mem hlt2)
                have HLD := hid_of (laid_any (L[i]).1 (Nat.le_trans f3 hsz) f2)
                rw [← HX.out] at hc1 HLD
                have hx2 : x.2 ≤ 2000 := by rw [HX.out]; exact Nat.le_trans f4 hsz
                obtain ⟨hd1, hd2⟩ := rl_at hlt2 HX.out HDR.out
                have HD1 := hid_of hd1
                have HD2 := hid_of hd2
                have hcdl := itm_len x.1
                have hcs := itm_cases x.1
                generalize itm x.1 = it at HLD HD1 HD2 hcdl hcs hd1 hd2
                have HOWL := hid_of (ownsRow_below HOW.out HBQ.out)
                have HBX := hid_of (bcall (bcall HB1.out HBE.out) HBQ.out)
                clear hd1 hd2 f1 f2 f3 f4 HDR how6
                obtain ⟨B, HBB⟩ : ∃ B : ByteArray, Hid (B = ⟨it.cd.toArray⟩) := ⟨_, rfl⟩
                have hBs : B.size = it.cd.length := by rw [HBB.out]; rfl
                rcases hcs with ⟨n, c, hie, hne⟩ | ⟨n, hie, hne⟩ | ⟨c, hie⟩ | hie | hie
                · subst hie
                  rw [laidV_1, ← HBB.out] at HLD
                  have HBC : Hid (bl B = c) := by show _ = _; rw [HBB.out]; rfl
                  have hBs2 : B.size = c.length := hBs
                  have hcl : c.length ≤ 33 := hcdl
                  have HD3 : Hid ((rlist s).drop (i + 1) = rit (L.drop (i + 1)) (X.size + c.length)) := HD2.out
                  have HLN : Hid (labs s n = llk n ls) := (HLF.out n).symm
                  clear HBB hcdl HD2 hBs
                  cases hq : llk n ls with
                  | none =>
                    have HF : Hid (∀ w', w'.ownsRow w1.heap.size 47 2 u8 ls.length (cells2 ls) → Calls Tryd.prog 13 #[u8, .string n] w' fun e w'' => e = .returned (.int .i64 (-1)) ∧ w'' = w') := fun w' h => by have h2 := find_any ls n _ _ (by omega) w' h; rw [hq] at h2; exact h2
                    have HE : Hid (asm s = (⟨#[]⟩, 3, x.2)) := HFAULT.out 3 x.2 (rn2_end HD1.out (by unfold flt; rw [if_neg (by exact fun h => h rfl), if_pos ⟨rfl, by show labs s n ≠ _; rw [HLN.out, hq]; exact fun h => by cases h⟩]) (by omega) HRR.out)
                    have hdd : ((-1 : Int) != (X.size : Int)) = true := by simp
                    clear hq
                    go_wp2_with fail
                    refine (HLD.out _).mono ?_
                    rintro e w4 ⟨rfl, hb4⟩
                    have HBX4 := hid_of (bcall HBX.out hb4)
                    have HBQ4 := hid_of (bcall HBQ.out hb4)
                    have HOW4 := hid_of (ownsRow_below HOWL.out hb4)
                    have hc2 := HC2.out w4 hb4
                    clear hb4
                    go_wp2_with fail
                    refine (HF.out _ HOW4.out).mono ?_
                    rintro e w4 ⟨rfl, rfl⟩
                    go_wp2
                    go_region
                    all_goals (try go_wp2)
                    all_goals refine bodyPost_ret (v := asmV s) ?_ rfl ⟨rfl, HBX4.out.drew⟩
                    all_goals rw [asV_e HE.out]
                    all_goals simp [results, Tryd.results5, go_sem]
                  | some qq =>
                    have HF : Hid (∀ w', w'.ownsRow w1.heap.size 47 2 u8 ls.length (cells2 ls) → Calls Tryd.prog 13 #[u8, .string n] w' fun e w'' => e = .returned (.int .i64 (qq : Int)) ∧ w'' = w') := fun w' h => by have h2 := find_any ls n _ _ (by omega) w' h; rw [hq] at h2; exact h2
                    by_cases hqe : qq = X.size
                    · have hflt : flt (labs s) ⟨⟨1, n, c, 0⟩, x.2, X.size⟩ = 0 := by unfold flt; rw [if_neg (by exact fun h => h rfl), if_neg (fun h => h.2 (show labs s n = some X.size by rw [HLN.out, hq, hqe])), if_neg (fun h => by cases h.1)]
                      have HGO : Hid (rn2 (labs s) ((rlist s).drop (i + 1)) (bl (X ++ B)) = rn2 (labs s) (rlist s) []) := by show _ = _; rw [bl_add, HBC.out]; exact rn2_go HD1.out hflt HRR.out
                      have hdd : ((qq : Int) != (X.size : Int)) = false := by simp; omega
                      clear hq hflt hqe
                      go_wp2_with fail
                      refine (HLD.out _).mono ?_
                      rintro e w4 ⟨rfl, hb4⟩
                      have HBX4 := hid_of (bcall HBX.out hb4)
                      have HBQ4 := hid_of (bcall HBQ.out hb4)
                      have HOW4 := hid_of (ownsRow_below HOWL.out hb4)
                      have hc2 := HC2.out w4 hb4
                      clear hb4
                      go_wp2_with fail
                      refine (HF.out _ HOW4.out).mono ?_
                      rintro e w4 ⟨rfl, rfl⟩
                      go_wp2
                      go_roundw
                      case rel => exact ⟨i + 1, X ++ B, by go_num, rfl, HBQ4.out, by omega, by rw [size_add]; omega, by show _ = _; rw [size_add, hBs2]; exact HD3.out, HGO⟩
                      case measure => simp [intOf]; omega
                    · have HE : Hid (asm s = (⟨#[]⟩, 3, x.2)) := HFAULT.out 3 x.2 (rn2_end HD1.out (by unfold flt; rw [if_neg (by exact fun h => h rfl), if_pos ⟨rfl, by show labs s n ≠ _; rw [HLN.out, hq]; exact fun h => hqe (Option.some.inj h)⟩]) (by omega) HRR.out)
                      have hdd : ((qq : Int) != (X.size : Int)) = true := by simp; omega
                      clear hq hqe
                      go_wp2_with fail
                      refine (HLD.out _).mono ?_
                      rintro e w4 ⟨rfl, hb4⟩
                      have HBX4 := hid_of (bcall HBX.out hb4)
                      have HBQ4 := hid_of (bcall HBQ.out hb4)
                      have HOW4 := hid_of (ownsRow_below HOWL.out hb4)
                      have hc2 := HC2.out w4 hb4
                      clear hb4
                      go_wp2_with fail
                      refine (HF.out _ HOW4.out).mono ?_
                      rintro e w4 ⟨rfl, rfl⟩
                      go_wp2
                      go_region
                      all_goals (try go_wp2)
                      all_goals refine bodyPost_ret (v := asmV s) ?_ rfl ⟨rfl, HBX4.out.drew⟩
                      all_goals rw [asV_e HE.out]
                      all_goals simp [results, Tryd.results5, go_sem]
                · subst hie
                  rw [laidV_2, ← HBB.out] at HLD
                  have HD3 : Hid ((rlist s).drop (i + 1) = rit (L.drop (i + 1)) (X.size + 3)) := HD2.out
                  have HLN : Hid (labs s n = llk n ls) := (HLF.out n).symm
                  clear HBB hcdl HD2 hBs
                  cases hq : llk n ls with
                  | none =>
                    have HF : Hid (∀ w', w'.ownsRow w1.heap.size 47 2 u8 ls.length (cells2 ls) → Calls Tryd.prog 13 #[u8, .string n] w' fun e w'' => e = .returned (.int .i64 (-1)) ∧ w'' = w') := fun w' h => by have h2 := find_any ls n _ _ (by omega) w' h; rw [hq] at h2; exact h2
                    have HE : Hid (asm s = (⟨#[]⟩, 3, x.2)) := HFAULT.out 3 x.2 (rn2_end HD1.out (by unfold flt; rw [if_neg (by exact fun h => h rfl), if_neg (fun h => by cases h.1), if_pos ⟨rfl, by show labs s n = _; rw [HLN.out, hq]⟩]) (by omega) HRR.out)
                    clear hq
                    go_wp2_with fail
                    refine (HLD.out _).mono ?_
                    rintro e w4 ⟨rfl, hb4⟩
                    have HBX4 := hid_of (bcall HBX.out hb4)
                    have HBQ4 := hid_of (bcall HBQ.out hb4)
                    have HOW4 := hid_of (ownsRow_below HOWL.out hb4)
                    have hc2 := HC2.out w4 hb4
                    clear hb4
                    go_wp2_with fail
                    refine (HF.out _ HOW4.out).mono ?_
                    rintro e w4 ⟨rfl, rfl⟩
                    go_wp2
                    go_region
                    all_goals (try go_wp2)
                    all_goals refine bodyPost_ret (v := asmV s) ?_ rfl ⟨rfl, HBX4.out.drew⟩
                    all_goals rw [asV_e HE.out]
                    all_goals simp [results, Tryd.results5, go_sem]
                  | some qq =>
                    have HF : Hid (∀ w', w'.ownsRow w1.heap.size 47 2 u8 ls.length (cells2 ls) → Calls Tryd.prog 13 #[u8, .string n] w' fun e w'' => e = .returned (.int .i64 (qq : Int)) ∧ w'' = w') := fun w' h => by have h2 := find_any ls n _ _ (by omega) w' h; rw [hq] at h2; exact h2
                    have hqb : qq ≤ 100000 := HLB.out n qq (by rw [HLN.out, hq])
                    have hflt : flt (labs s) ⟨⟨2, n, [97, 0, 0], 0⟩, x.2, X.size⟩ = 0 := by unfold flt; rw [if_neg (by exact fun h => h rfl), if_neg (fun h => by cases h.1), if_neg (fun h => by have h2 : labs s n = none := h.2; rw [HLN.out, hq] at h2; cases h2)]
                    have hcw : cwt (labs s) ⟨⟨2, n, [97, 0, 0], 0⟩, x.2, X.size⟩ = [97, UInt8.ofNat (qq / 256), UInt8.ofNat (qq % 256)] := by unfold cwt; rw [if_pos rfl]; show [97, UInt8.ofNat ((labs s n).getD 0 / 256), UInt8.ofNat ((labs s n).getD 0 % 256)] = _; rw [HLN.out, hq]; rfl
                    have HGO0 := hid_of (rn2_go HD1.out hflt HRR.out)
                    rw [hcw] at HGO0
                    clear hq hflt hcw
                    go_wp2_with fail
                    refine (HLD.out _).mono ?_
                    rintro e w4 ⟨rfl, hb4⟩
                    have HBX4 := hid_of (bcall HBX.out hb4)
                    have HBQ4 := hid_of (bcall HBQ.out hb4)
                    have HOW4 := hid_of (ownsRow_below HOWL.out hb4)
                    have hc2 := HC2.out w4 hb4
                    clear hb4
                    go_wp2_with fail
                    refine (HF.out _ HOW4.out).mono ?_
                    rintro e w4 ⟨rfl, rfl⟩
                    go_wp2_with fail
                    refine (HF.out _ HOW4.out).mono ?_
                    rintro e w4 ⟨rfl, rfl⟩
                    have hcv := cvt3 97 ((qq : Int) / 256 % 256) ((qq : Int) % 256) w4
                    go_wp2
                    refine ⟨⟨i + 1, _, by go_num, rfl, bal HBQ4.out _, by omega, by rw [size_add]; show X.size + 3 ≤ _; omega, by show _ = _; rw [size_add]; exact HD3.out, by show _ = _; rw [bl_add, bl_ask qq]; exact HGO0.out⟩, ?_⟩
                    simp [intOf]; omega
                · subst hie
                  rw [laidV_0, ← HBB.out] at HLD
                  have HBC : Hid (bl B = c) := by show _ = _; rw [HBB.out]; rfl
                  have hBs2 : B.size = c.length := hBs
                  have hcl : c.length ≤ 33 := hcdl
                  have HD3 : Hid ((rlist s).drop (i + 1) = rit (L.drop (i + 1)) (X.size + c.length)) := HD2.out
                  have hflt : flt (labs s) ⟨⟨0, ⟨#[]⟩, c, 0⟩, x.2, X.size⟩ = 0 := by unfold flt; rw [if_neg (by exact fun h => h rfl), if_neg (fun h => by cases h.1), if_neg (fun h => by cases h.1)]
                  have HGO : Hid (rn2 (labs s) ((rlist s).drop (i + 1)) (bl (X ++ B)) = rn2 (labs s) (rlist s) []) := by show _ = _; rw [bl_add, HBC.out]; exact rn2_go HD1.out hflt HRR.out
                  clear HBB hcdl HD2 hBs hflt
                  go_wp2_with fail
                  refine (HLD.out _).mono ?_
                  rintro e w4 ⟨rfl, hb4⟩
                  have HBX4 := hid_of (bcall HBX.out hb4)
                  have HBQ4 := hid_of (bcall HBQ.out hb4)
                  have HOW4 := hid_of (ownsRow_below HOWL.out hb4)
                  have hc2 := HC2.out w4 hb4
                  clear hb4
                  go_wp2
                  go_roundw
                  case rel => exact ⟨i + 1, X ++ B, by go_num, rfl, HBQ4.out, by omega, by rw [size_add]; omega, by show _ = _; rw [size_add, hBs2]; exact HD3.out, HGO⟩
                  case measure => simp [intOf]; omega
                · subst hie
                  rw [laidV_t, ← HBB.out] at HLD
                  have HE : Hid (asm s = (⟨#[]⟩, 2, x.2)) := HFAULT.out 2 x.2 (rn2_end HD1.out (by unfold flt; exact if_pos (by exact fun h => by cases h)) (by omega) HRR.out)
                  clear HBB hcdl HD2 hBs
                  go_wp2_with fail
                  refine (HLD.out _).mono ?_
                  rintro e w4 ⟨rfl, hb4⟩
                  have HBX4 := hid_of (bcall HBX.out hb4)
                  have HBQ4 := hid_of (bcall HBQ.out hb4)
                  have HOW4 := hid_of (ownsRow_below HOWL.out hb4)
                  have hc2 := HC2.out w4 hb4
                  clear hb4
                  go_wp2
                  go_region
                  all_goals (try go_wp2)
                  all_goals refine bodyPost_ret (v := asmV s) ?_ rfl ⟨rfl, HBX4.out.drew⟩
                  all_goals rw [asV_e HE.out]
                  all_goals simp [results, Tryd.results5, go_sem]
                · subst hie
                  rw [laidV_b, ← HBB.out] at HLD
                  have HE : Hid (asm s = (⟨#[]⟩, 4, x.2)) := HFAULT.out 4 x.2 (rn2_end HD1.out (by unfold flt; exact if_pos (by exact fun h => by cases h)) (by omega) HRR.out)
                  clear HBB hcdl HD2 hBs
                  go_wp2_with fail
                  refine (HLD.out _).mono ?_
                  rintro e w4 ⟨rfl, hb4⟩
                  have HBX4 := hid_of (bcall HBX.out hb4)
                  have HBQ4 := hid_of (bcall HBQ.out hb4)
                  have HOW4 := hid_of (ownsRow_below HOWL.out hb4)
                  have hc2 := HC2.out w4 hb4
                  clear hb4
                  go_wp2
                  go_region
                  all_goals (try go_wp2)
                  all_goals refine bodyPost_ret (v := asmV s) ?_ rfl ⟨rfl, HBX4.out.drew⟩
                  all_goals rw [asV_e HE.out]
                  all_goals simp [results, Tryd.results5, go_sem]
              · have HE : Hid (rn2 (labs s) (rlist s) [] = .inl (bl X)) := by show _ = _; rw [← HRR.out, List.drop_of_length_le (by rw [HRN.out]; omega)]; rfl
                have HBX := hid_of (bcall (bcall HB1.out HBE.out) HBQ.out)
                by_cases hbig : 1000 < X.size
                · have HA := hid_of (HBIG.out (bl X) HE.out hbig)
                  have hdb : decide ((1000 : Int) < (X.size : Int)) = true := decide_eq_true (by omega)
                  go_wp2
                  refine bodyPost_ret (v := asmV s) ?_ rfl ⟨rfl, HBX.out⟩
                  unfold asmV
                  rw [HA.out]
                  simp [results, Tryd.results5, go_sem]
                · have HA := hid_of (HCODE.out (bl X) HE.out hbig)
                  rw [bl_arr] at HA
                  have hdb : decide ((1000 : Int) < (X.size : Int)) = false := decide_eq_false (by omega)
                  go_wp2
                  refine bodyPost_ret (v := asmV s) ?_ rfl ⟨rfl, HBX.out⟩
                  unfold asmV
                  rw [HA.out]
                  simp [results, Tryd.results5, go_sem]
end cin
end Go.Proofs.YtohoajjdoihekaaDoor
