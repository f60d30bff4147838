/-
  A text parted into items, the document's way.
-/
import Derived.Test.YtohoajjdoihekaaDoorTy
set_option linter.unusedVariables false
set_option linter.unusedSimpArgs false
namespace Go.Proofs.YtohoajjdoihekaaDoor
open Go.RowKit Go.Lib
namespace cin
theorem info_item : (Tryd.prog.info? 45).map (fun i => (i.zero, i.size, i.bytes)) = some (some (.agg #[.string ⟨#[]⟩, .int .i64 0]), 2, 24) := by kernel_rfl
theorem own_low0 {w : World} {b e size n : Nat} {v : Value} {xs : List Value} (h : w.ownsRow b e size v n xs) : ∀ k, v.ownBlock = some k → b ≤ k := fun k hk => (h.lt k hk).1
/-- what is held of an item so far -/
def nwd (s : ByteArray) (cur : Option (Nat × Nat)) (a : Nat) (x : ByteArray) (p : Nat) : Prop := (x = ⟨#[]⟩ ∧ cur = none) ∨ ∃ b : Nat, x = s.extract b p ∧ b < p ∧ cur = some (b, a)
theorem ext_full {s : ByteArray} {b p : Nat} (h1 : b < p) (h2 : p ≤ s.size) : (s.extract b p).toList.isEmpty = false := by
  have h := ext_size (b := b) h2
  rw [Go.ByteArray.toList_eq]
  match hm : (s.extract b p).data.toList with
  | [] => have : (s.extract b p).size = ((s.extract b p).data.toList).length := rfl; rw [hm] at this; simp at this; omega
  | _ :: _ => rfl
theorem cnt_bad {s : ByteArray} {f p k : Nat} {c : Nat × Bool} (hp : p < s.size) (h0 : nx s p = 0) (hf : 0 < f) (h : cntF s f p k = c) : c = (k, false) := by
  obtain ⟨g, rfl⟩ : ∃ g, f = g + 1 := ⟨f - 1, by omega⟩
  rw [← h]
  simp [cntF, hp, h0]
def ItemsOf (s : ByteArray) (w : World) (e : Ending) (w' : World) : Prop := ∃ v, e = .returned (.tuple #[v, .int .i64 ((cnt s).1 : Int), .bool (cnt s).2]) ∧ ((cnt s).2 = true → w'.ownsRow w.heap.size 45 2 v (spl s).length (cells2 (spl s))) ∧ Below w.heap.size w w'
set_option maxRecDepth 100000 in
set_option maxHeartbeats 8000000 in
theorem items_any (s : ByteArray) (hs : s.size ≤ 2000) (w : World) : Calls Tryd.prog 11 #[.string s] w fun e w' => ItemsOf s w e w' := by
  obtain ⟨i0, hi0, hz0, hz1, hz2⟩ := info_parts info_item
  have HI := hid_of (And.intro hi0 (And.intro hz0 (And.intro hz1 hz2)))
  clear hi0 hz0 hz1 hz2
  go_enter Tryd.func11, Tryd.ntmps11
  go_wp2
  go_loopw [5, 6, 7, 8, 9, 10] (fun t5 t6 t7 t8 t9 t10 wr => ∃ (p f k a : Nat) (rm : Bool) (x : ByteArray) (cur : Option (Nat × Nat)) (acc : List (ByteArray × Nat)), t10 = .int .i64 (p : Int) ∧ t8 = .int .i64 (k : Int) ∧ t9 = .bool rm ∧ t6 = .string x ∧ t7 = .int .i64 (a : Int) ∧ wr.ownsRow w.heap.size 45 2 t5 acc.length (cells2 acc) ∧ Below w.heap.size w wr ∧ k ≤ p ∧ p ≤ s.size ∧ s.size ≤ p + f ∧ acc.length ≤ p ∧ Hid (nwd s cur a x p) ∧ Hid (acc ++ splF s f p k rm cur = spl s) ∧ Hid (cntF s f p k = cnt s)) (fun _ _ _ _ _ t10 _ => s.size - (intOf t10).toNat)
  case atStart => exact ⟨0, s.size, 0, 0, false, ⟨#[]⟩, none, [], rfl, rfl, rfl, rfl, rfl, World.ownsRow_nil _ _ _ _, Below.refl _ _, by omega, by omega, by omega, by simp, Or.inl ⟨rfl, rfl⟩, rfl, rfl⟩
  case round =>
    obtain ⟨p, f, k, a, rm, x, cur, acc, rfl, rfl, rfl, rfl, rfl, how, hbe, hk, hps, hf, hac, HNW, HS, HC⟩ := hrel
    have HOW := hid_of how
    have HBE := hid_of hbe
    clear how hbe
    by_cases hp : p < s.size
    · have HX := hid_of (next_any s p hp hs)
      by_cases h0 : nx s p = 0
      · have HR := hid_of (cnt_bad hp h0 (by omega) HC.out)
        rw [h0] at HX
        clear h0
        go_wp2_with fail
        refine (HX.out _).mono ?_
        rintro e w' ⟨rfl, rfl⟩
        go_wp2
        refine bodyPost_ret (v := .tuple #[.slice none 0 0, .int .i64 (k : Int), .bool false]) ?_ rfl ⟨.slice none 0 0, by rw [HR.out], fun h => (by rw [HR.out] at h; cases h), HBE.out⟩
        simp [results, Tryd.results11, go_sem]
      · have hle := nx_le s p hp h0
        have hpos : 0 < nx s p := Nat.pos_of_ne_zero h0
        have HC2 := hid_of (cnt_step hp h0 (by omega) HC.out)
        have hn0 : ((nx s p : Int) == 0) = false := by simp; omega
        have E10 := hid_of (ceq s p 10 (by decide) hp h0)
        have E59 := hid_of (ceq s p 59 (by decide) hp h0)
        have E32 := hid_of (ceq s p 32 (by decide) hp h0)
        have E9 := hid_of (ceq s p 9 (by decide) hp h0)
        have HOUT := hid_of (fun (ho : (rm || sepB (byt s p)) = true) => spl_out hp (by omega) ho HS.out)
        have HIN := hid_of (fun (ho : (rm || sepB (byt s p)) = false) => spl_in hp (by omega) ho HS.out)
        clear h0
        generalize nx s p = n at *
        generalize byt s p = c at *
        rcases (by omega : c = 59 ∨ c = 10 ∨ c = 32 ∨ c = 9 ∨ (c ≠ 59 ∧ c ≠ 10 ∧ c ≠ 32 ∧ c ≠ 9)) with hc | hc | hc | hc | ⟨hc1, hc2, hc3, hc4⟩
        · subst hc
          have e10 : ((s.extract p (p + n)).toList == [10]) = false := E10.out.trans (decide_eq_false (by decide))
          have e59 : ((s.extract p (p + n)).toList == [59]) = true := E59.out.trans (decide_eq_true (by rfl))
          have e32 : ((s.extract p (p + n)).toList == [32]) = false := E32.out.trans (decide_eq_false (by decide))
          have e9 : ((s.extract p (p + n)).toList == [9]) = false := E9.out.trans (decide_eq_false (by decide))
          clear E10 E59 E32 E9
          cases rm
          · have HRM : Hid (rmk false 59 = true) := rfl
            have HT := hid_of (HOUT.out (by rfl))
            rw [HRM.out] at HT
            clear HOUT HIN HRM
            rcases HNW.out with ⟨rfl, rfl⟩ | ⟨b, rfl, hb, rfl⟩
            · clear HNW
              go_wp2_with fail
              refine (HX.out _).mono ?_
              rintro e w' ⟨rfl, rfl⟩
              go_wp2
              go_roundw
              case rel => exact ⟨p + n, f - 1, k + 1, a, true, ⟨#[]⟩, none, acc, by go_num, by go_num, rfl, rfl, rfl, HOW.out, HBE.out, by omega, by omega, by omega, by omega, Or.inl ⟨rfl, rfl⟩, (by have h := HT.out; simp only [fin, List.append_nil] at h; exact h), HC2⟩
              case measure => simp [intOf]; omega
            · have hem := ext_full hb hps
              clear HNW
              go_wp2_with fail
              refine (HX.out _).mono ?_
              rintro e w' ⟨rfl, rfl⟩
              go_wp2_with (first | (at_builtin; obtain ⟨hi0, hz0, hz1, hz2⟩ := HI.out; refine wpList_append_own _ rfl _ _ 38 rfl w.heap.size 45 i0 (.agg #[.string ⟨#[]⟩, .int .i64 0]) 2 24 (by kernel_rfl) hi0 hz0 hz1 hz2 rfl (by decide) _ _ _ rfl (HOW.out.alloc _) _ 1 1 [.string (s.extract b p), .int .i64 (a : Int)] rfl rfl (lit_cells _ #[.string (s.extract b p), .int .i64 (a : Int)] 45) (by intro u hu; simp at hu; rcases hu with rfl | rfl <;> rfl) (by unfold maxLen; omega) (by omega) (by have := HBE.out.size; simp; omega) ?_; intro v' w1 ho3 hgr _; obtain ⟨g', cap', rfl, hg1', hg2', hg3'⟩ := own_shape ho3 (by omega); have HGR := hid_of hgr; have HO3 := hid_of ho3; clear hgr ho3 hi0 hz0 hz1 hz2 hg1' hg2' hg3'))
              go_roundw
              case rel => exact ⟨p + n, f - 1, k + 1, a, true, ⟨#[]⟩, none, acc ++ [(s.extract b p, a)], by go_num, by go_num, rfl, rfl, rfl, by rw [List.length_append, cells2_snoc]; exact HO3.out, (bal HBE.out _).grown HGR.out (by have := HBE.out.size; simp; omega) (own_low0 HOW.out), by omega, by omega, by omega, by rw [List.length_append]; show _ + 1 ≤ _; omega, Or.inl ⟨rfl, rfl⟩, HT, HC2⟩
              case measure => simp [intOf]; omega
          · have HRM : Hid (rmk true 59 = true) := rfl
            have HT := hid_of (HOUT.out (by rfl))
            rw [HRM.out] at HT
            clear HOUT HIN HRM
            rcases HNW.out with ⟨rfl, rfl⟩ | ⟨b, rfl, hb, rfl⟩
            · clear HNW
              go_wp2_with fail
              refine (HX.out _).mono ?_
              rintro e w' ⟨rfl, rfl⟩
              go_wp2
              go_roundw
              case rel => exact ⟨p + n, f - 1, k + 1, a, true, ⟨#[]⟩, none, acc, by go_num, by go_num, rfl, rfl, rfl, HOW.out, HBE.out, by omega, by omega, by omega, by omega, Or.inl ⟨rfl, rfl⟩, (by have h := HT.out; simp only [fin, List.append_nil] at h; exact h), HC2⟩
              case measure => simp [intOf]; omega
            · have hem := ext_full hb hps
              clear HNW
              go_wp2_with fail
              refine (HX.out _).mono ?_
              rintro e w' ⟨rfl, rfl⟩
              go_wp2_with (first | (at_builtin; obtain ⟨hi0, hz0, hz1, hz2⟩ := HI.out; refine wpList_append_own _ rfl _ _ 38 rfl w.heap.size 45 i0 (.agg #[.string ⟨#[]⟩, .int .i64 0]) 2 24 (by kernel_rfl) hi0 hz0 hz1 hz2 rfl (by decide) _ _ _ rfl (HOW.out.alloc _) _ 1 1 [.string (s.extract b p), .int .i64 (a : Int)] rfl rfl (lit_cells _ #[.string (s.extract b p), .int .i64 (a : Int)] 45) (by intro u hu; simp at hu; rcases hu with rfl | rfl <;> rfl) (by unfold maxLen; omega) (by omega) (by have := HBE.out.size; simp; omega) ?_; intro v' w1 ho3 hgr _; obtain ⟨g', cap', rfl, hg1', hg2', hg3'⟩ := own_shape ho3 (by omega); have HGR := hid_of hgr; have HO3 := hid_of ho3; clear hgr ho3 hi0 hz0 hz1 hz2 hg1' hg2' hg3'))
              go_roundw
              case rel => exact ⟨p + n, f - 1, k + 1, a, true, ⟨#[]⟩, none, acc ++ [(s.extract b p, a)], by go_num, by go_num, rfl, rfl, rfl, by rw [List.length_append, cells2_snoc]; exact HO3.out, (bal HBE.out _).grown HGR.out (by have := HBE.out.size; simp; omega) (own_low0 HOW.out), by omega, by omega, by omega, by rw [List.length_append]; show _ + 1 ≤ _; omega, Or.inl ⟨rfl, rfl⟩, HT, HC2⟩
              case measure => simp [intOf]; omega
        · subst hc
          have e10 : ((s.extract p (p + n)).toList == [10]) = true := E10.out.trans (decide_eq_true (by rfl))
          have e59 : ((s.extract p (p + n)).toList == [59]) = false := E59.out.trans (decide_eq_false (by decide))
          have e32 : ((s.extract p (p + n)).toList == [32]) = false := E32.out.trans (decide_eq_false (by decide))
          have e9 : ((s.extract p (p + n)).toList == [9]) = false := E9.out.trans (decide_eq_false (by decide))
          clear E10 E59 E32 E9
          cases rm
          · have HRM : Hid (rmk false 10 = false) := rfl
            have HT := hid_of (HOUT.out (by rfl))
            rw [HRM.out] at HT
            clear HOUT HIN HRM
            rcases HNW.out with ⟨rfl, rfl⟩ | ⟨b, rfl, hb, rfl⟩
            · clear HNW
              go_wp2_with fail
              refine (HX.out _).mono ?_
              rintro e w' ⟨rfl, rfl⟩
              go_wp2
              go_roundw
              case rel => exact ⟨p + n, f - 1, k + 1, a, false, ⟨#[]⟩, none, acc, by go_num, by go_num, rfl, rfl, rfl, HOW.out, HBE.out, by omega, by omega, by omega, by omega, Or.inl ⟨rfl, rfl⟩, (by have h := HT.out; simp only [fin, List.append_nil] at h; exact h), HC2⟩
              case measure => simp [intOf]; omega
            · have hem := ext_full hb hps
              clear HNW
              go_wp2_with fail
              refine (HX.out _).mono ?_
              rintro e w' ⟨rfl, rfl⟩
              go_wp2_with (first | (at_builtin; obtain ⟨hi0, hz0, hz1, hz2⟩ := HI.out; refine wpList_append_own _ rfl _ _ 38 rfl w.heap.size 45 i0 (.agg #[.string ⟨#[]⟩, .int .i64 0]) 2 24 (by kernel_rfl) hi0 hz0 hz1 hz2 rfl (by decide) _ _ _ rfl (HOW.out.alloc _) _ 1 1 [.string (s.extract b p), .int .i64 (a : Int)] rfl rfl (lit_cells _ #[.string (s.extract b p), .int .i64 (a : Int)] 45) (by intro u hu; simp at hu; rcases hu with rfl | rfl <;> rfl) (by unfold maxLen; omega) (by omega) (by have := HBE.out.size; simp; omega) ?_; intro v' w1 ho3 hgr _; obtain ⟨g', cap', rfl, hg1', hg2', hg3'⟩ := own_shape ho3 (by omega); have HGR := hid_of hgr; have HO3 := hid_of ho3; clear hgr ho3 hi0 hz0 hz1 hz2 hg1' hg2' hg3'))
              go_roundw
              case rel => exact ⟨p + n, f - 1, k + 1, a, false, ⟨#[]⟩, none, acc ++ [(s.extract b p, a)], by go_num, by go_num, rfl, rfl, rfl, by rw [List.length_append, cells2_snoc]; exact HO3.out, (bal HBE.out _).grown HGR.out (by have := HBE.out.size; simp; omega) (own_low0 HOW.out), by omega, by omega, by omega, by rw [List.length_append]; show _ + 1 ≤ _; omega, Or.inl ⟨rfl, rfl⟩, HT, HC2⟩
              case measure => simp [intOf]; omega
          · have HRM : Hid (rmk true 10 = false) := rfl
            have HT := hid_of (HOUT.out (by rfl))
            rw [HRM.out] at HT
            clear HOUT HIN HRM
            rcases HNW.out with ⟨rfl, rfl⟩ | ⟨b, rfl, hb, rfl⟩
            · clear HNW
              go_wp2_with fail
              refine (HX.out _).mono ?_
              rintro e w' ⟨rfl, rfl⟩
              go_wp2
              go_roundw
              case rel => exact ⟨p + n, f - 1, k + 1, a, false, ⟨#[]⟩, none, acc, by go_num, by go_num, rfl, rfl, rfl, HOW.out, HBE.out, by omega, by omega, by omega, by omega, Or.inl ⟨rfl, rfl⟩, (by have h := HT.out; simp only [fin, List.append_nil] at h; exact h), HC2⟩
              case measure => simp [intOf]; omega
            · have hem := ext_full hb hps
              clear HNW
              go_wp2_with fail
              refine (HX.out _).mono ?_
              rintro e w' ⟨rfl, rfl⟩
              go_wp2_with (first | (at_builtin; obtain ⟨hi0, hz0, hz1, hz2⟩ := HI.out; refine wpList_append_own _ rfl _ _ 38 rfl w.heap.size 45 i0 (.agg #[.string ⟨#[]⟩, .int .i64 0]) 2 24 (by kernel_rfl) hi0 hz0 hz1 hz2 rfl (by decide) _ _ _ rfl (HOW.out.alloc _) _ 1 1 [.string (s.extract b p), .int .i64 (a : Int)] rfl rfl (lit_cells _ #[.string (s.extract b p), .int .i64 (a : Int)] 45) (by intro u hu; simp at hu; rcases hu with rfl | rfl <;> rfl) (by unfold maxLen; omega) (by omega) (by have := HBE.out.size; simp; omega) ?_; intro v' w1 ho3 hgr _; obtain ⟨g', cap', rfl, hg1', hg2', hg3'⟩ := own_shape ho3 (by omega); have HGR := hid_of hgr; have HO3 := hid_of ho3; clear hgr ho3 hi0 hz0 hz1 hz2 hg1' hg2' hg3'))
              go_roundw
              case rel => exact ⟨p + n, f - 1, k + 1, a, false, ⟨#[]⟩, none, acc ++ [(s.extract b p, a)], by go_num, by go_num, rfl, rfl, rfl, by rw [List.length_append, cells2_snoc]; exact HO3.out, (bal HBE.out _).grown HGR.out (by have := HBE.out.size; simp; omega) (own_low0 HOW.out), by omega, by omega, by omega, by rw [List.length_append]; show _ + 1 ≤ _; omega, Or.inl ⟨rfl, rfl⟩, HT, HC2⟩
              case measure => simp [intOf]; omega
        · subst hc
          have e10 : ((s.extract p (p + n)).toList == [10]) = false := E10.out.trans (decide_eq_false (by decide))
          have e59 : ((s.extract p (p + n)).toList == [59]) = false := E59.out.trans (decide_eq_false (by decide))
          have e32 : ((s.extract p (p + n)).toList == [32]) = true := E32.out.trans (decide_eq_true (by rfl))
          have e9 : ((s.extract p (p + n)).toList == [9]) = false := E9.out.trans (decide_eq_false (by decide))
          clear E10 E59 E32 E9
          cases rm
          · have HRM : Hid (rmk false 32 = false) := rfl
            have HT := hid_of (HOUT.out (by rfl))
            rw [HRM.out] at HT
            clear HOUT HIN HRM
            rcases HNW.out with ⟨rfl, rfl⟩ | ⟨b, rfl, hb, rfl⟩
            · clear HNW
              go_wp2_with fail
              refine (HX.out _).mono ?_
              rintro e w' ⟨rfl, rfl⟩
              go_wp2
              go_roundw
              case rel => exact ⟨p + n, f - 1, k + 1, a, false, ⟨#[]⟩, none, acc, by go_num, by go_num, rfl, rfl, rfl, HOW.out, HBE.out, by omega, by omega, by omega, by omega, Or.inl ⟨rfl, rfl⟩, (by have h := HT.out; simp only [fin, List.append_nil] at h; exact h), HC2⟩
              case measure => simp [intOf]; omega
            · have hem := ext_full hb hps
              clear HNW
              go_wp2_with fail
              refine (HX.out _).mono ?_
              rintro e w' ⟨rfl, rfl⟩
              go_wp2_with (first | (at_builtin; obtain ⟨hi0, hz0, hz1, hz2⟩ := HI.out; refine wpList_append_own _ rfl _ _ 38 rfl w.heap.size 45 i0 (.agg #[.string ⟨#[]⟩, .int .i64 0]) 2 24 (by kernel_rfl) hi0 hz0 hz1 hz2 rfl (by decide) _ _ _ rfl (HOW.out.alloc _) _ 1 1 [.string (s.extract b p), .int .i64 (a : Int)] rfl rfl (lit_cells _ #[.string (s.extract b p), .int .i64 (a : Int)] 45) (by intro u hu; simp at hu; rcases hu with rfl | rfl <;> rfl) (by unfold maxLen; omega) (by omega) (by have := HBE.out.size; simp; omega) ?_; intro v' w1 ho3 hgr _; obtain ⟨g', cap', rfl, hg1', hg2', hg3'⟩ := own_shape ho3 (by omega); have HGR := hid_of hgr; have HO3 := hid_of ho3; clear hgr ho3 hi0 hz0 hz1 hz2 hg1' hg2' hg3'))
              go_roundw
              case rel => exact ⟨p + n, f - 1, k + 1, a, false, ⟨#[]⟩, none, acc ++ [(s.extract b p, a)], by go_num, by go_num, rfl, rfl, rfl, by rw [List.length_append, cells2_snoc]; exact HO3.out, (bal HBE.out _).grown HGR.out (by have := HBE.out.size; simp; omega) (own_low0 HOW.out), by omega, by omega, by omega, by rw [List.length_append]; show _ + 1 ≤ _; omega, Or.inl ⟨rfl, rfl⟩, HT, HC2⟩
              case measure => simp [intOf]; omega
          · have HRM : Hid (rmk true 32 = true) := rfl
            have HT := hid_of (HOUT.out (by rfl))
            rw [HRM.out] at HT
            clear HOUT HIN HRM
            rcases HNW.out with ⟨rfl, rfl⟩ | ⟨b, rfl, hb, rfl⟩
            · clear HNW
              go_wp2_with fail
              refine (HX.out _).mono ?_
              rintro e w' ⟨rfl, rfl⟩
              go_wp2
              go_roundw
              case rel => exact ⟨p + n, f - 1, k + 1, a, true, ⟨#[]⟩, none, acc, by go_num, by go_num, rfl, rfl, rfl, HOW.out, HBE.out, by omega, by omega, by omega, by omega, Or.inl ⟨rfl, rfl⟩, (by have h := HT.out; simp only [fin, List.append_nil] at h; exact h), HC2⟩
              case measure => simp [intOf]; omega
            · have hem := ext_full hb hps
              clear HNW
              go_wp2_with fail
              refine (HX.out _).mono ?_
              rintro e w' ⟨rfl, rfl⟩
              go_wp2_with (first | (at_builtin; obtain ⟨hi0, hz0, hz1, hz2⟩ := HI.out; refine wpList_append_own _ rfl _ _ 38 rfl w.heap.size 45 i0 (.agg #[.string ⟨#[]⟩, .int .i64 0]) 2 24 (by kernel_rfl) hi0 hz0 hz1 hz2 rfl (by decide) _ _ _ rfl (HOW.out.alloc _) _ 1 1 [.string (s.extract b p), .int .i64 (a : Int)] rfl rfl (lit_cells _ #[.string (s.extract b p), .int .i64 (a : Int)] 45) (by intro u hu; simp at hu; rcases hu with rfl | rfl <;> rfl) (by unfold maxLen; omega) (by omega) (by have := HBE.out.size; simp; omega) ?_; intro v' w1 ho3 hgr _; obtain ⟨g', cap', rfl, hg1', hg2', hg3'⟩ := own_shape ho3 (by omega); have HGR := hid_of hgr; have HO3 := hid_of ho3; clear hgr ho3 hi0 hz0 hz1 hz2 hg1' hg2' hg3'))
              go_roundw
              case rel => exact ⟨p + n, f - 1, k + 1, a, true, ⟨#[]⟩, none, acc ++ [(s.extract b p, a)], by go_num, by go_num, rfl, rfl, rfl, by rw [List.length_append, cells2_snoc]; exact HO3.out, (bal HBE.out _).grown HGR.out (by have := HBE.out.size; simp; omega) (own_low0 HOW.out), by omega, by omega, by omega, by rw [List.length_append]; show _ + 1 ≤ _; omega, Or.inl ⟨rfl, rfl⟩, HT, HC2⟩
              case measure => simp [intOf]; omega
        · subst hc
          have e10 : ((s.extract p (p + n)).toList == [10]) = false := E10.out.trans (decide_eq_false (by decide))
          have e59 : ((s.extract p (p + n)).toList == [59]) = false := E59.out.trans (decide_eq_false (by decide))
          have e32 : ((s.extract p (p + n)).toList == [32]) = false := E32.out.trans (decide_eq_false (by decide))
          have e9 : ((s.extract p (p + n)).toList == [9]) = true := E9.out.trans (decide_eq_true (by rfl))
          clear E10 E59 E32 E9
          cases rm
          · have HRM : Hid (rmk false 9 = false) := rfl
            have HT := hid_of (HOUT.out (by rfl))
            rw [HRM.out] at HT
            clear HOUT HIN HRM
            rcases HNW.out with ⟨rfl, rfl⟩ | ⟨b, rfl, hb, rfl⟩
            · clear HNW
              go_wp2_with fail
              refine (HX.out _).mono ?_
              rintro e w' ⟨rfl, rfl⟩
              go_wp2
              go_roundw
              case rel => exact ⟨p + n, f - 1, k + 1, a, false, ⟨#[]⟩, none, acc, by go_num, by go_num, rfl, rfl, rfl, HOW.out, HBE.out, by omega, by omega, by omega, by omega, Or.inl ⟨rfl, rfl⟩, (by have h := HT.out; simp only [fin, List.append_nil] at h; exact h), HC2⟩
              case measure => simp [intOf]; omega
            · have hem := ext_full hb hps
              clear HNW
              go_wp2_with fail
              refine (HX.out _).mono ?_
              rintro e w' ⟨rfl, rfl⟩
              go_wp2_with (first | (at_builtin; obtain ⟨hi0, hz0, hz1, hz2⟩ := HI.out; refine wpList_append_own _ rfl _ _ 38 rfl w.heap.size 45 i0 (.agg #[.string ⟨#[]⟩, .int .i64 0]) 2 24 (by kernel_rfl) hi0 hz0 hz1 hz2 rfl (by decide) _ _ _ rfl (HOW.out.alloc _) _ 1 1 [.string (s.extract b p), .int .i64 (a : Int)] rfl rfl (lit_cells _ #[.string (s.extract b p), .int .i64 (a : Int)] 45) (by intro u hu; simp at hu; rcases hu with rfl | rfl <;> rfl) (by unfold maxLen; omega) (by omega) (by have := HBE.out.size; simp; omega) ?_; intro v' w1 ho3 hgr _; obtain ⟨g', cap', rfl, hg1', hg2', hg3'⟩ := own_shape ho3 (by omega); have HGR := hid_of hgr; have HO3 := hid_of ho3; clear hgr ho3 hi0 hz0 hz1 hz2 hg1' hg2' hg3'))
              go_roundw
              case rel => exact ⟨p + n, f - 1, k + 1, a, false, ⟨#[]⟩, none, acc ++ [(s.extract b p, a)], by go_num, by go_num, rfl, rfl, rfl, by rw [List.length_append, cells2_snoc]; exact HO3.out, (bal HBE.out _).grown HGR.out (by have := HBE.out.size; simp; omega) (own_low0 HOW.out), by omega, by omega, by omega, by rw [List.length_append]; show _ + 1 ≤ _; omega, Or.inl ⟨rfl, rfl⟩, HT, HC2⟩
              case measure => simp [intOf]; omega
          · have HRM : Hid (rmk true 9 = true) := rfl
            have HT := hid_of (HOUT.out (by rfl))
            rw [HRM.out] at HT
            clear HOUT HIN HRM
            rcases HNW.out with ⟨rfl, rfl⟩ | ⟨b, rfl, hb, rfl⟩
            · clear HNW
              go_wp2_with fail
              refine (HX.out _).mono ?_
              rintro e w' ⟨rfl, rfl⟩
              go_wp2
              go_roundw
              case rel => exact ⟨p + n, f - 1, k + 1, a, true, ⟨#[]⟩, none, acc, by go_num, by go_num, rfl, rfl, rfl, HOW.out, HBE.out, by omega, by omega, by omega, by omega, Or.inl ⟨rfl, rfl⟩, (by have h := HT.out; simp only [fin, List.append_nil] at h; exact h), HC2⟩
              case measure => simp [intOf]; omega
            · have hem := ext_full hb hps
              clear HNW
              go_wp2_with fail
              refine (HX.out _).mono ?_
              rintro e w' ⟨rfl, rfl⟩
              go_wp2_with (first | (at_builtin; obtain ⟨hi0, hz0, hz1, hz2⟩ := HI.out; refine wpList_append_own _ rfl _ _ 38 rfl w.heap.size 45 i0 (.agg #[.string ⟨#[]⟩, .int .i64 0]) 2 24 (by kernel_rfl) hi0 hz0 hz1 hz2 rfl (by decide) _ _ _ rfl (HOW.out.alloc _) _ 1 1 [.string (s.extract b p), .int .i64 (a : Int)] rfl rfl (lit_cells _ #[.string (s.extract b p), .int .i64 (a : Int)] 45) (by intro u hu; simp at hu; rcases hu with rfl | rfl <;> rfl) (by unfold maxLen; omega) (by omega) (by have := HBE.out.size; simp; omega) ?_; intro v' w1 ho3 hgr _; obtain ⟨g', cap', rfl, hg1', hg2', hg3'⟩ := own_shape ho3 (by omega); have HGR := hid_of hgr; have HO3 := hid_of ho3; clear hgr ho3 hi0 hz0 hz1 hz2 hg1' hg2' hg3'))
              go_roundw
              case rel => exact ⟨p + n, f - 1, k + 1, a, true, ⟨#[]⟩, none, acc ++ [(s.extract b p, a)], by go_num, by go_num, rfl, rfl, rfl, by rw [List.length_append, cells2_snoc]; exact HO3.out, (bal HBE.out _).grown HGR.out (by have := HBE.out.size; simp; omega) (own_low0 HOW.out), by omega, by omega, by omega, by rw [List.length_append]; show _ + 1 ≤ _; omega, Or.inl ⟨rfl, rfl⟩, HT, HC2⟩
              case measure => simp [intOf]; omega
        · skip
          have e10 : ((s.extract p (p + n)).toList == [10]) = false := E10.out.trans (decide_eq_false (by intro h; exact hc2 h))
          have e59 : ((s.extract p (p + n)).toList == [59]) = false := E59.out.trans (decide_eq_false (by intro h; exact hc1 h))
          have e32 : ((s.extract p (p + n)).toList == [32]) = false := E32.out.trans (decide_eq_false (by intro h; exact hc3 h))
          have e9 : ((s.extract p (p + n)).toList == [9]) = false := E9.out.trans (decide_eq_false (by intro h; exact hc4 h))
          have hsep : sepB c = false := decide_eq_false (by omega)
          clear E10 E59 E32 E9
          cases rm
          · have HRM : Hid (rmk false c = false) := by show _ = _; unfold rmk; rw [decide_eq_false hc1, decide_eq_true hc2]; rfl
            have HT := hid_of (HIN.out (by rw [hsep]; rfl))
            rw [HRM.out] at HT
            clear HOUT HIN HRM
            rcases HNW.out with ⟨rfl, rfl⟩ | ⟨b, rfl, hb, rfl⟩
            · clear HNW
              go_wp2_with fail
              refine (HX.out _).mono ?_
              rintro e w' ⟨rfl, rfl⟩
              go_wp2
              go_roundw
              case rel => exact ⟨p + n, f - 1, k + 1, k, false, s.extract p (p + n), some (p, k), acc, by go_num, by go_num, rfl, by rw [← ext_nil s p, ext_cat s p p (p + n) (by omega) (by omega)], rfl, HOW.out, HBE.out, by omega, by omega, by omega, by omega, Or.inr ⟨p, rfl, by omega, rfl⟩, HT, HC2⟩
              case measure => simp [intOf]; omega
            · have hem := ext_full hb hps
              clear HNW
              go_wp2_with fail
              refine (HX.out _).mono ?_
              rintro e w' ⟨rfl, rfl⟩
              go_wp2
              go_roundw
              case rel => exact ⟨p + n, f - 1, k + 1, a, false, s.extract b (p + n), some (b, a), acc, by go_num, by go_num, rfl, by rw [Nat.min_eq_left (Nat.le_of_lt hb)], rfl, HOW.out, HBE.out, by omega, by omega, by omega, by omega, Or.inr ⟨b, rfl, by omega, rfl⟩, HT, HC2⟩
              case measure => simp [intOf]; omega
          · have HRM : Hid (rmk true c = true) := by show _ = _; unfold rmk; rw [decide_eq_false hc1, decide_eq_true hc2]; rfl
            have HT := hid_of (HOUT.out (by rw [hsep]; rfl))
            rw [HRM.out] at HT
            clear HOUT HIN HRM
            rcases HNW.out with ⟨rfl, rfl⟩ | ⟨b, rfl, hb, rfl⟩
            · clear HNW
              go_wp2_with fail
              refine (HX.out _).mono ?_
              rintro e w' ⟨rfl, rfl⟩
              go_wp2
              go_roundw
              case rel => exact ⟨p + n, f - 1, k + 1, a, true, ⟨#[]⟩, none, acc, by go_num, by go_num, rfl, rfl, rfl, HOW.out, HBE.out, by omega, by omega, by omega, by omega, Or.inl ⟨rfl, rfl⟩, (by have h := HT.out; simp only [fin, List.append_nil] at h; exact h), HC2⟩
              case measure => simp [intOf]; omega
            · have hem := ext_full hb hps
              clear HNW
              go_wp2_with fail
              refine (HX.out _).mono ?_
              rintro e w' ⟨rfl, rfl⟩
              go_wp2_with (first | (at_builtin; obtain ⟨hi0, hz0, hz1, hz2⟩ := HI.out; refine wpList_append_own _ rfl _ _ 38 rfl w.heap.size 45 i0 (.agg #[.string ⟨#[]⟩, .int .i64 0]) 2 24 (by kernel_rfl) hi0 hz0 hz1 hz2 rfl (by decide) _ _ _ rfl (HOW.out.alloc _) _ 1 1 [.string (s.extract b p), .int .i64 (a : Int)] rfl rfl (lit_cells _ #[.string (s.extract b p), .int .i64 (a : Int)] 45) (by intro u hu; simp at hu; rcases hu with rfl | rfl <;> rfl) (by unfold maxLen; omega) (by omega) (by have := HBE.out.size; simp; omega) ?_; intro v' w1 ho3 hgr _; obtain ⟨g', cap', rfl, hg1', hg2', hg3'⟩ := own_shape ho3 (by omega); have HGR := hid_of hgr; have HO3 := hid_of ho3; clear hgr ho3 hi0 hz0 hz1 hz2 hg1' hg2' hg3'))
              go_roundw
              case rel => exact ⟨p + n, f - 1, k + 1, a, true, ⟨#[]⟩, none, acc ++ [(s.extract b p, a)], by go_num, by go_num, rfl, rfl, rfl, by rw [List.length_append, cells2_snoc]; exact HO3.out, (bal HBE.out _).grown HGR.out (by have := HBE.out.size; simp; omega) (own_low0 HOW.out), by omega, by omega, by omega, by rw [List.length_append]; show _ + 1 ≤ _; omega, Or.inl ⟨rfl, rfl⟩, HT, HC2⟩
              case measure => simp [intOf]; omega
    · have HE : Hid (acc ++ fin s p cur = spl s) := by show _ = _; rw [← HS.out, spl_end s f p k rm cur hp]
      have HR : Hid (cnt s = (k, true)) := by show _ = _; rw [← HC.out, cntF_end s f p k hp]
      rcases HNW.out with ⟨rfl, rfl⟩ | ⟨b, rfl, hb, rfl⟩
      · have HE2 : Hid (acc = spl s) := by show _ = _; rw [← HE.out]; simp [fin]
        obtain ⟨ad, ln, cp, hsh⟩ := own_slice HOW.out
        subst hsh
        go_wp2
        refine bodyPost_ret (v := .tuple #[.slice ad ln cp, .int .i64 (k : Int), .bool true]) ?_ rfl ⟨.slice ad ln cp, by rw [HR.out], fun _ => (by rw [← HE2.out]; exact HOW.out), HBE.out⟩
        simp [results, Tryd.results11, go_sem]
      · have HE2 : Hid (acc ++ [(s.extract b p, a)] = spl s) := HE.out
        have hem := ext_full hb hps
        go_wp2_with (first | (at_builtin; obtain ⟨hi0, hz0, hz1, hz2⟩ := HI.out; refine wpList_append_own _ rfl _ _ 38 rfl w.heap.size 45 i0 (.agg #[.string ⟨#[]⟩, .int .i64 0]) 2 24 (by kernel_rfl) hi0 hz0 hz1 hz2 rfl (by decide) _ _ _ rfl (HOW.out.alloc _) _ 1 1 [.string (s.extract b p), .int .i64 (a : Int)] rfl rfl (lit_cells _ #[.string (s.extract b p), .int .i64 (a : Int)] 45) (by intro u hu; simp at hu; rcases hu with rfl | rfl <;> rfl) (by unfold maxLen; omega) (by omega) (by have := HBE.out.size; simp; omega) ?_; intro v' w1 ho3 hgr _; obtain ⟨g', cap', rfl, hg1', hg2', hg3'⟩ := own_shape ho3 (by omega); have HGR := hid_of hgr; have HO3 := hid_of ho3; clear hgr ho3 hi0 hz0 hz1 hz2 hg1' hg2' hg3'))
        refine bodyPost_ret (v := .tuple #[_, .int .i64 (k : Int), .bool true]) ?_ rfl ⟨_, by rw [HR.out], fun _ => (by rw [← HE2.out, List.length_append, cells2_snoc]; exact HO3.out), (bal HBE.out _).grown HGR.out (by have := HBE.out.size; simp; omega) (own_low0 HOW.out)⟩
        simp [results, Tryd.results11, go_sem]
end cin
end Go.Proofs.YtohoajjdoihekaaDoor
