/-
  A text parted into items, the program's way.
-/
import Derived.Test.YtohoajjdoihekaaDoorTx
import Derived.Test.YtohoajjdoihekaaDoorTw
set_option linter.unusedVariables false
set_option linter.unusedSimpArgs false
namespace Go.Proofs.YtohoajjdoihekaaDoor
open Go.RowKit Go.Lib
namespace cin
set_option maxRecDepth 100000 in
theorem parts_any (r : Nat) (w : World) : Calls Tryd.prog 24 #[.int .i32 (r : Int)] w fun e w' => e = .returned (.bool (sepB r)) ∧ w' = w := by
  by_cases h1 : r = 32
  · subst h1
    go_enter Tryd.func24, Tryd.ntmps24
    go_wp2
    go_ret
    exact ⟨rfl, rfl⟩
  · have d1 : ((r : Int) == 32) = false := by simp; omega
    by_cases h2 : r = 9
    · subst h2
      go_enter Tryd.func24, Tryd.ntmps24
      go_wp2
      go_ret
      exact ⟨rfl, rfl⟩
    · have d2 : ((r : Int) == 9) = false := by simp; omega
      by_cases h3 : r = 10
      · subst h3
        go_enter Tryd.func24, Tryd.ntmps24
        go_wp2
        go_ret
        exact ⟨rfl, rfl⟩
      · have d3 : ((r : Int) == 10) = false := by simp; omega
        by_cases h4 : r = 59
        · subst h4
          go_enter Tryd.func24, Tryd.ntmps24
          go_wp2
          go_ret
          exact ⟨rfl, rfl⟩
        · have d4 : ((r : Int) == 59) = false := by simp; omega
          have HS : Hid (sepB r = false) := decide_eq_false (by omega)
          go_enter Tryd.func24, Tryd.ntmps24
          go_wp2
          go_ret
          exact ⟨by rw [HS.out]; rfl, rfl⟩
/-- the state of the loop: the iterator in block z, what is owned so far -/
structure SP (w : World) (s : ByteArray) (p : Nat) (v : Value) (acc : List (ByteArray × Nat)) (x : World) : Prop where
  it : x.heap[w.heap.size]? = some (.stringIter s p)
  ow : x.ownsRow (w.heap.size + 1) 52 2 v acc.length (cells2 acc)
  be : Below w.heap.size w x
theorem own_other {w w' : World} {base e size n : Nat} {v : Value} {xs : List Value} (h : w.ownsRow base e size v n xs) (hb : ∀ g, base ≤ g → w'.heap[g]? = w.heap[g]?) : w'.ownsRow base e size v n xs :=
  ⟨h.1, h.2.imp id fun ⟨g, cap, cur, h1, h2, h3, h4⟩ => ⟨g, cap, cur, h1, h2, by rw [hb g h2]; exact h3, h4⟩⟩
theorem SP.next {w : World} {s : ByteArray} {p : Nat} {v : Value} {acc : List (ByteArray × Nat)} {x : World} (h : SP w s p v acc x) (q : Nat) : SP w s q v acc (x.iterAt w.heap.size s q) :=
  ⟨iterAt_heap x _ s p q h.it, own_other h.ow fun g hg => iterAt_other x _ g s q (by omega), below_iterAt h.be (by omega) s q⟩
theorem info_piece : (Tryd.prog.info? 52).map (fun i => (i.zero, i.size, i.bytes)) = some (some (.agg #[.string ⟨#[]⟩, .int .i64 0]), 2, 24) := by kernel_rfl
theorem own_mono {w : World} {b c e size n : Nat} {v : Value} {xs : List Value} (h : w.ownsRow b e size v n xs) (hc : c ≤ b) : w.ownsRow c e size v n xs :=
  ⟨h.1, h.2.imp id fun ⟨g, cap, cur, a1, a2, a3⟩ => ⟨g, cap, cur, a1, Nat.le_trans hc a2, a3⟩⟩
theorem own_slice {w : World} {b e size n : Nat} {v : Value} {xs : List Value} (h : w.ownsRow b e size v n xs) : ∃ (ad : Option Addr) (ln cp : Nat), v = .slice ad ln cp := by
  rcases h.2 with ⟨hv, _⟩ | ⟨g, cap, cur, hv, _⟩
  · exact ⟨_, _, _, hv⟩
  · exact ⟨_, _, _, hv⟩
theorem own_low2 {w : World} {b e size n k : Nat} {v : Value} {xs : List Value} (h : w.ownsRow (b + 1) e size v n xs) (hk : some k = v.ownBlock) : b + 1 ≤ k := (h.lt k hk.symm).1
theorem own_low {w : World} {b e size n : Nat} {v : Value} {xs : List Value} (h : w.ownsRow (b + 1) e size v n xs) : ∀ k, v.ownBlock = some k → b ≤ k := fun k hk => by have := (h.lt k hk).1; omega
theorem heap_alloc_lt (w : World) (o : Obj) (k : Nat) (h : k < w.heap.size) : (w.alloc o).heap[k]? = w.heap[k]? := Below.heap_alloc w o k h
/-- the slot that holds where an item begins -/
def bgn (cur : Option (Nat × Nat)) (a : Nat) (bi : Int) (p : Nat) : Prop := (bi = -1 ∧ cur = none) ∨ ∃ b : Nat, bi = (b : Int) ∧ b < p ∧ cur = some (b, a)
set_option maxRecDepth 100000 in
set_option maxHeartbeats 8000000 in
theorem split_any (s : ByteArray) (hs : s.size ≤ 2000) (hv : Hid (Whole s)) (w : World) : Calls Tryd.prog 15 #[.string s] w fun e w' => ∃ v, e = .returned v ∧ w'.ownsRow w.heap.size 52 2 v (spl s).length (cells2 (spl s)) ∧ Below w.heap.size w w' := by
  obtain ⟨i0, hi0, hz0, hz1, hz2⟩ := info_parts info_piece
  have HI := hid_of (And.intro hi0 (And.intro hz0 (And.intro hz1 hz2)))
  clear hi0 hz0 hz1 hz2
  go_enter Tryd.func15, Tryd.ntmps15
  go_wp2
  go_loopw [3, 4, 5, 6, 7] (fun t3 t4 t5 t6 t7 wr => ∃ (p f k a : Nat) (rm : Bool) (bi : Int) (cur : Option (Nat × Nat)) (acc : List (ByteArray × Nat)), t6 = .int .i64 (k : Int) ∧ t7 = .bool rm ∧ t4 = .int .i64 bi ∧ t5 = .int .i64 (a : Int) ∧ SP w s p t3 acc wr ∧ k ≤ p ∧ p ≤ s.size ∧ s.size ≤ p + f ∧ acc.length ≤ p ∧ Hid (bgn cur a bi p) ∧ Hid (acc ++ splF s f p k rm cur = spl s) ∧ Hid ((cntF s f p k).2 = true)) (fun _ _ _ _ _ wr => s.size - wr.iterPos w.heap.size)
  case atStart => exact ⟨0, s.size, 0, 0, false, -1, none, [], rfl, rfl, rfl, rfl, ⟨World.iter_heap w s 0, World.ownsRow_nil _ _ _ _, bal (Below.refl _ _) _⟩, by omega, by omega, by omega, by simp, Or.inl ⟨rfl, rfl⟩, rfl, hv.out.cnt⟩
  case round =>
    obtain ⟨p, f, k, a, rm, bi, cur, acc, rfl, rfl, rfl, rfl, hsp, hk, hps, hf, hac, HBG, HS, HV⟩ := hrel
    have HPOS : Hid (wr.iterPos w.heap.size = p) := by show _ = _; simp [World.iterPos, hsp.it]
    by_cases hp : p < s.size
    · have hnx : ∀ ty, (Instr.next (.pointer (some ⟨w.heap.size, 0, none⟩)) true ty).run Tryd.prog wr = _ := fun ty => run_next_any_at wr w.heap.size s p ty hsp.it hp
      obtain ⟨h0, hv2⟩ := cntF_ok hp (by omega) HV.out
      have HV2 := hid_of hv2
      have hle := nx_le s p hp h0
      have hpos : 0 < nx s p := Nat.pos_of_ne_zero h0
      rw [nx_width s p h0] at hnx
      have hsp2 := hsp.next (p + nx s p)
      have e59 := rune_is s p 59 (by omega) h0
      have e10 := rune_is s p 10 (by omega) h0
      have e32 := rune_is s p 32 (by omega) h0
      have e9 := rune_is s p 9 (by omega) h0
      have HOUT := hid_of (fun (ho : (rm || sepB (byt s p)) = true) => spl_out hp (by omega) ho HS.out)
      have HIN := hid_of (fun (ho : (rm || sepB (byt s p)) = false) => spl_in hp (by omega) ho HS.out)
      have HPA := hid_of (parts_any (Utf8.decode s p).1)
      clear hv2 h0 HV
      generalize nx s p = n at *
      generalize (Utf8.decode s p).1 = r at *
      generalize byt s p = c at *
      have hcls : (c = 59 ∧ ((r : Int) == 59) = true ∧ sepB r = true) ∨ (c = 10 ∧ ((r : Int) == 59) = false ∧ ((r : Int) != 10) = false ∧ sepB r = true) ∨ (sepB c = true ∧ c ≠ 59 ∧ c ≠ 10 ∧ ((r : Int) == 59) = false ∧ ((r : Int) != 10) = true ∧ sepB r = true) ∨ (sepB c = false ∧ c ≠ 59 ∧ c ≠ 10 ∧ ((r : Int) == 59) = false ∧ ((r : Int) != 10) = true ∧ sepB r = false) := by
        unfold sepB
        simp only [decide_eq_true_eq, decide_eq_false_iff_not, beq_iff_eq, bne_iff_ne, beq_eq_false_iff_ne, bne_eq_false_iff_eq, ne_eq]
        omega
      clear e59 e10 e32 e9
      have hlt := lt_of_block hsp2.it
      have hsz := hsp.be.size
      have HLT := hid_of hlt
      have HSP := hid_of hsp2
      have HPO2 : Hid ((wr.iterAt w.heap.size s (p + n)).iterPos w.heap.size = p + n) := by show _ = _; simp only [World.iterPos, hsp2.it]
      clear hlt hsp2 hsp
      rcases hcls with ⟨hc, hr, hg⟩ | ⟨hc, hr, hr2, hg⟩ | ⟨hc, hc2, hc3, hr, hr2, hg⟩ | ⟨hc, hc2, hc3, hr, hr2, hg⟩
      · subst hc
        cases rm
        · have HRM : Hid (rmk false 59 = true) := rfl
          have HT := hid_of (HOUT.out (by rfl))
          rw [HRM.out] at HT
          clear HOUT HIN HRM
          rcases HBG.out with ⟨rfl, rfl⟩ | ⟨b, rfl, hb, rfl⟩
          · go_wp2_with fail
            refine (HPA.out _).mono ?_
            rintro e w' ⟨rfl, rfl⟩
            rw [hg]
            go_wp2
            go_roundw
            case rel => exact ⟨p + n, f - 1, k + 1, a, true, -1, none, acc, by go_num, rfl, rfl, rfl, HSP.out, by omega, by omega, by omega, by omega, Or.inl ⟨rfl, rfl⟩, (by have h := HT.out; simp only [fin, List.append_nil] at h; exact h), HV2⟩
            case measure => rw [HPOS.out, HPO2.out]; omega
          · go_wp2_with fail
            refine (HPA.out _).mono ?_
            rintro e w' ⟨rfl, rfl⟩
            rw [hg]
            go_wp2_with (first | (at_builtin; obtain ⟨hi0, hz0, hz1, hz2⟩ := HI.out; refine wpList_append_own _ rfl _ _ 49 rfl (w.heap.size + 1) 52 i0 (.agg #[.string ⟨#[]⟩, .int .i64 0]) 2 24 (by kernel_rfl) hi0 hz0 hz1 hz2 rfl (by decide) _ _ _ rfl (HSP.out.ow.alloc _) _ 1 1 [.string (s.extract b p), .int .i64 (a : Int)] rfl rfl (lit_cells _ #[.string (s.extract b p), .int .i64 (a : Int)] 52) (by intro u hu; simp at hu; rcases hu with rfl | rfl <;> rfl) (by unfold maxLen; omega) (by omega) (by have := HLT.out; simp; omega) ?_; intro v' w1 ho3 hgr _; obtain ⟨g', cap', rfl, hg1', hg2', hg3'⟩ := own_shape ho3 (by omega); have HGR := hid_of hgr; have HO3 := hid_of ho3; clear hgr ho3 hi0 hz0 hz1 hz2 hg1' hg2' hg3'))
            go_roundw
            case rel => exact ⟨p + n, f - 1, k + 1, a, true, -1, none, acc ++ [(s.extract b p, a)], by go_num, rfl, rfl, rfl, ⟨(HGR.out.block w.heap.size (by have := HLT.out; simp; omega) (fun e => by have := own_low2 HSP.out.ow e; omega)).trans (by rw [heap_alloc_lt _ _ _ HLT.out]; exact HSP.out.it), by rw [List.length_append, cells2_snoc]; exact HO3.out, (bal HSP.out.be _).grown HGR.out (by have := HLT.out; simp; omega) (own_low HSP.out.ow)⟩, by omega, by omega, by omega, by rw [List.length_append]; show _ + 1 ≤ _; omega, Or.inl ⟨rfl, rfl⟩, HT, HV2⟩
            case measure => rw [HPOS.out]; have hit := (HGR.out.block w.heap.size (by have := HLT.out; simp; omega) (fun e => by have := own_low2 HSP.out.ow e; omega)).trans ((heap_alloc_lt _ _ _ HLT.out).trans HSP.out.it); simp only [World.iterPos, hit]; omega
        · have HRM : Hid (rmk true 59 = true) := rfl
          have HT := hid_of (HOUT.out (by rfl))
          rw [HRM.out] at HT
          clear HOUT HIN HRM
          rcases HBG.out with ⟨rfl, rfl⟩ | ⟨b, rfl, hb, rfl⟩
          · go_wp2
            go_roundw
            case rel => exact ⟨p + n, f - 1, k + 1, a, true, -1, none, acc, by go_num, rfl, rfl, rfl, HSP.out, by omega, by omega, by omega, by omega, Or.inl ⟨rfl, rfl⟩, (by have h := HT.out; simp only [fin, List.append_nil] at h; exact h), HV2⟩
            case measure => rw [HPOS.out, HPO2.out]; omega
          · go_wp2_with (first | (at_builtin; obtain ⟨hi0, hz0, hz1, hz2⟩ := HI.out; refine wpList_append_own _ rfl _ _ 49 rfl (w.heap.size + 1) 52 i0 (.agg #[.string ⟨#[]⟩, .int .i64 0]) 2 24 (by kernel_rfl) hi0 hz0 hz1 hz2 rfl (by decide) _ _ _ rfl (HSP.out.ow.alloc _) _ 1 1 [.string (s.extract b p), .int .i64 (a : Int)] rfl rfl (lit_cells _ #[.string (s.extract b p), .int .i64 (a : Int)] 52) (by intro u hu; simp at hu; rcases hu with rfl | rfl <;> rfl) (by unfold maxLen; omega) (by omega) (by have := HLT.out; simp; omega) ?_; intro v' w1 ho3 hgr _; obtain ⟨g', cap', rfl, hg1', hg2', hg3'⟩ := own_shape ho3 (by omega); have HGR := hid_of hgr; have HO3 := hid_of ho3; clear hgr ho3 hi0 hz0 hz1 hz2 hg1' hg2' hg3'))
            go_roundw
            case rel => exact ⟨p + n, f - 1, k + 1, a, true, -1, none, acc ++ [(s.extract b p, a)], by go_num, rfl, rfl, rfl, ⟨(HGR.out.block w.heap.size (by have := HLT.out; simp; omega) (fun e => by have := own_low2 HSP.out.ow e; omega)).trans (by rw [heap_alloc_lt _ _ _ HLT.out]; exact HSP.out.it), by rw [List.length_append, cells2_snoc]; exact HO3.out, (bal HSP.out.be _).grown HGR.out (by have := HLT.out; simp; omega) (own_low HSP.out.ow)⟩, by omega, by omega, by omega, by rw [List.length_append]; show _ + 1 ≤ _; omega, Or.inl ⟨rfl, rfl⟩, HT, HV2⟩
            case measure => rw [HPOS.out]; have hit := (HGR.out.block w.heap.size (by have := HLT.out; simp; omega) (fun e => by have := own_low2 HSP.out.ow e; omega)).trans ((heap_alloc_lt _ _ _ HLT.out).trans HSP.out.it); simp only [World.iterPos, hit]; omega
      · subst hc
        cases rm
        · have HRM : Hid (rmk false 10 = false) := rfl
          have HT := hid_of (HOUT.out (by rfl))
          rw [HRM.out] at HT
          clear HOUT HIN HRM
          rcases HBG.out with ⟨rfl, rfl⟩ | ⟨b, rfl, hb, rfl⟩
          · go_wp2_with fail
            refine (HPA.out _).mono ?_
            rintro e w' ⟨rfl, rfl⟩
            rw [hg]
            go_wp2
            go_roundw
            case rel => exact ⟨p + n, f - 1, k + 1, a, false, -1, none, acc, by go_num, rfl, rfl, rfl, HSP.out, by omega, by omega, by omega, by omega, Or.inl ⟨rfl, rfl⟩, (by have h := HT.out; simp only [fin, List.append_nil] at h; exact h), HV2⟩
            case measure => rw [HPOS.out, HPO2.out]; omega
          · go_wp2_with fail
            refine (HPA.out _).mono ?_
            rintro e w' ⟨rfl, rfl⟩
            rw [hg]
            go_wp2_with (first | (at_builtin; obtain ⟨hi0, hz0, hz1, hz2⟩ := HI.out; refine wpList_append_own _ rfl _ _ 49 rfl (w.heap.size + 1) 52 i0 (.agg #[.string ⟨#[]⟩, .int .i64 0]) 2 24 (by kernel_rfl) hi0 hz0 hz1 hz2 rfl (by decide) _ _ _ rfl (HSP.out.ow.alloc _) _ 1 1 [.string (s.extract b p), .int .i64 (a : Int)] rfl rfl (lit_cells _ #[.string (s.extract b p), .int .i64 (a : Int)] 52) (by intro u hu; simp at hu; rcases hu with rfl | rfl <;> rfl) (by unfold maxLen; omega) (by omega) (by have := HLT.out; simp; omega) ?_; intro v' w1 ho3 hgr _; obtain ⟨g', cap', rfl, hg1', hg2', hg3'⟩ := own_shape ho3 (by omega); have HGR := hid_of hgr; have HO3 := hid_of ho3; clear hgr ho3 hi0 hz0 hz1 hz2 hg1' hg2' hg3'))
            go_roundw
            case rel => exact ⟨p + n, f - 1, k + 1, a, false, -1, none, acc ++ [(s.extract b p, a)], by go_num, rfl, rfl, rfl, ⟨(HGR.out.block w.heap.size (by have := HLT.out; simp; omega) (fun e => by have := own_low2 HSP.out.ow e; omega)).trans (by rw [heap_alloc_lt _ _ _ HLT.out]; exact HSP.out.it), by rw [List.length_append, cells2_snoc]; exact HO3.out, (bal HSP.out.be _).grown HGR.out (by have := HLT.out; simp; omega) (own_low HSP.out.ow)⟩, by omega, by omega, by omega, by rw [List.length_append]; show _ + 1 ≤ _; omega, Or.inl ⟨rfl, rfl⟩, HT, HV2⟩
            case measure => rw [HPOS.out]; have hit := (HGR.out.block w.heap.size (by have := HLT.out; simp; omega) (fun e => by have := own_low2 HSP.out.ow e; omega)).trans ((heap_alloc_lt _ _ _ HLT.out).trans HSP.out.it); simp only [World.iterPos, hit]; omega
        · have HRM : Hid (rmk true 10 = false) := rfl
          have HT := hid_of (HOUT.out (by rfl))
          rw [HRM.out] at HT
          clear HOUT HIN HRM
          rcases HBG.out with ⟨rfl, rfl⟩ | ⟨b, rfl, hb, rfl⟩
          · go_wp2
            go_roundw
            case rel => exact ⟨p + n, f - 1, k + 1, a, false, -1, none, acc, by go_num, rfl, rfl, rfl, HSP.out, by omega, by omega, by omega, by omega, Or.inl ⟨rfl, rfl⟩, (by have h := HT.out; simp only [fin, List.append_nil] at h; exact h), HV2⟩
            case measure => rw [HPOS.out, HPO2.out]; omega
          · go_wp2_with (first | (at_builtin; obtain ⟨hi0, hz0, hz1, hz2⟩ := HI.out; refine wpList_append_own _ rfl _ _ 49 rfl (w.heap.size + 1) 52 i0 (.agg #[.string ⟨#[]⟩, .int .i64 0]) 2 24 (by kernel_rfl) hi0 hz0 hz1 hz2 rfl (by decide) _ _ _ rfl (HSP.out.ow.alloc _) _ 1 1 [.string (s.extract b p), .int .i64 (a : Int)] rfl rfl (lit_cells _ #[.string (s.extract b p), .int .i64 (a : Int)] 52) (by intro u hu; simp at hu; rcases hu with rfl | rfl <;> rfl) (by unfold maxLen; omega) (by omega) (by have := HLT.out; simp; omega) ?_; intro v' w1 ho3 hgr _; obtain ⟨g', cap', rfl, hg1', hg2', hg3'⟩ := own_shape ho3 (by omega); have HGR := hid_of hgr; have HO3 := hid_of ho3; clear hgr ho3 hi0 hz0 hz1 hz2 hg1' hg2' hg3'))
            go_roundw
            case rel => exact ⟨p + n, f - 1, k + 1, a, false, -1, none, acc ++ [(s.extract b p, a)], by go_num, rfl, rfl, rfl, ⟨(HGR.out.block w.heap.size (by have := HLT.out; simp; omega) (fun e => by have := own_low2 HSP.out.ow e; omega)).trans (by rw [heap_alloc_lt _ _ _ HLT.out]; exact HSP.out.it), by rw [List.length_append, cells2_snoc]; exact HO3.out, (bal HSP.out.be _).grown HGR.out (by have := HLT.out; simp; omega) (own_low HSP.out.ow)⟩, by omega, by omega, by omega, by rw [List.length_append]; show _ + 1 ≤ _; omega, Or.inl ⟨rfl, rfl⟩, HT, HV2⟩
            case measure => rw [HPOS.out]; have hit := (HGR.out.block w.heap.size (by have := HLT.out; simp; omega) (fun e => by have := own_low2 HSP.out.ow e; omega)).trans ((heap_alloc_lt _ _ _ HLT.out).trans HSP.out.it); simp only [World.iterPos, hit]; omega
      · skip
        cases rm
        · have HRM : Hid (rmk false c = false) := by show _ = _; unfold rmk; rw [decide_eq_false hc2, decide_eq_true hc3]; rfl
          have HT := hid_of (HOUT.out (by rw [hc]; rfl))
          rw [HRM.out] at HT
          clear HOUT HIN HRM
          rcases HBG.out with ⟨rfl, rfl⟩ | ⟨b, rfl, hb, rfl⟩
          · go_wp2_with fail
            refine (HPA.out _).mono ?_
            rintro e w' ⟨rfl, rfl⟩
            rw [hg]
            go_wp2
            go_roundw
            case rel => exact ⟨p + n, f - 1, k + 1, a, false, -1, none, acc, by go_num, rfl, rfl, rfl, HSP.out, by omega, by omega, by omega, by omega, Or.inl ⟨rfl, rfl⟩, (by have h := HT.out; simp only [fin, List.append_nil] at h; exact h), HV2⟩
            case measure => rw [HPOS.out, HPO2.out]; omega
          · go_wp2_with fail
            refine (HPA.out _).mono ?_
            rintro e w' ⟨rfl, rfl⟩
            rw [hg]
            go_wp2_with (first | (at_builtin; obtain ⟨hi0, hz0, hz1, hz2⟩ := HI.out; refine wpList_append_own _ rfl _ _ 49 rfl (w.heap.size + 1) 52 i0 (.agg #[.string ⟨#[]⟩, .int .i64 0]) 2 24 (by kernel_rfl) hi0 hz0 hz1 hz2 rfl (by decide) _ _ _ rfl (HSP.out.ow.alloc _) _ 1 1 [.string (s.extract b p), .int .i64 (a : Int)] rfl rfl (lit_cells _ #[.string (s.extract b p), .int .i64 (a : Int)] 52) (by intro u hu; simp at hu; rcases hu with rfl | rfl <;> rfl) (by unfold maxLen; omega) (by omega) (by have := HLT.out; simp; omega) ?_; intro v' w1 ho3 hgr _; obtain ⟨g', cap', rfl, hg1', hg2', hg3'⟩ := own_shape ho3 (by omega); have HGR := hid_of hgr; have HO3 := hid_of ho3; clear hgr ho3 hi0 hz0 hz1 hz2 hg1' hg2' hg3'))
            go_roundw
            case rel => exact ⟨p + n, f - 1, k + 1, a, false, -1, none, acc ++ [(s.extract b p, a)], by go_num, rfl, rfl, rfl, ⟨(HGR.out.block w.heap.size (by have := HLT.out; simp; omega) (fun e => by have := own_low2 HSP.out.ow e; omega)).trans (by rw [heap_alloc_lt _ _ _ HLT.out]; exact HSP.out.it), by rw [List.length_append, cells2_snoc]; exact HO3.out, (bal HSP.out.be _).grown HGR.out (by have := HLT.out; simp; omega) (own_low HSP.out.ow)⟩, by omega, by omega, by omega, by rw [List.length_append]; show _ + 1 ≤ _; omega, Or.inl ⟨rfl, rfl⟩, HT, HV2⟩
            case measure => rw [HPOS.out]; have hit := (HGR.out.block w.heap.size (by have := HLT.out; simp; omega) (fun e => by have := own_low2 HSP.out.ow e; omega)).trans ((heap_alloc_lt _ _ _ HLT.out).trans HSP.out.it); simp only [World.iterPos, hit]; omega
        · have HRM : Hid (rmk true c = true) := by show _ = _; unfold rmk; rw [decide_eq_false hc2, decide_eq_true hc3]; rfl
          have HT := hid_of (HOUT.out (by rw [hc]; rfl))
          rw [HRM.out] at HT
          clear HOUT HIN HRM
          rcases HBG.out with ⟨rfl, rfl⟩ | ⟨b, rfl, hb, rfl⟩
          · go_wp2
            go_roundw
            case rel => exact ⟨p + n, f - 1, k + 1, a, true, -1, none, acc, by go_num, rfl, rfl, rfl, HSP.out, by omega, by omega, by omega, by omega, Or.inl ⟨rfl, rfl⟩, (by have h := HT.out; simp only [fin, List.append_nil] at h; exact h), HV2⟩
            case measure => rw [HPOS.out, HPO2.out]; omega
          · go_wp2_with (first | (at_builtin; obtain ⟨hi0, hz0, hz1, hz2⟩ := HI.out; refine wpList_append_own _ rfl _ _ 49 rfl (w.heap.size + 1) 52 i0 (.agg #[.string ⟨#[]⟩, .int .i64 0]) 2 24 (by kernel_rfl) hi0 hz0 hz1 hz2 rfl (by decide) _ _ _ rfl (HSP.out.ow.alloc _) _ 1 1 [.string (s.extract b p), .int .i64 (a : Int)] rfl rfl (lit_cells _ #[.string (s.extract b p), .int .i64 (a : Int)] 52) (by intro u hu; simp at hu; rcases hu with rfl | rfl <;> rfl) (by unfold maxLen; omega) (by omega) (by have := HLT.out; simp; omega) ?_; intro v' w1 ho3 hgr _; obtain ⟨g', cap', rfl, hg1', hg2', hg3'⟩ := own_shape ho3 (by omega); have HGR := hid_of hgr; have HO3 := hid_of ho3; clear hgr ho3 hi0 hz0 hz1 hz2 hg1' hg2' hg3'))
            go_roundw
            case rel => exact ⟨p + n, f - 1, k + 1, a, true, -1, none, acc ++ [(s.extract b p, a)], by go_num, rfl, rfl, rfl, ⟨(HGR.out.block w.heap.size (by have := HLT.out; simp; omega) (fun e => by have := own_low2 HSP.out.ow e; omega)).trans (by rw [heap_alloc_lt _ _ _ HLT.out]; exact HSP.out.it), by rw [List.length_append, cells2_snoc]; exact HO3.out, (bal HSP.out.be _).grown HGR.out (by have := HLT.out; simp; omega) (own_low HSP.out.ow)⟩, by omega, by omega, by omega, by rw [List.length_append]; show _ + 1 ≤ _; omega, Or.inl ⟨rfl, rfl⟩, HT, HV2⟩
            case measure => rw [HPOS.out]; have hit := (HGR.out.block w.heap.size (by have := HLT.out; simp; omega) (fun e => by have := own_low2 HSP.out.ow e; omega)).trans ((heap_alloc_lt _ _ _ HLT.out).trans HSP.out.it); simp only [World.iterPos, hit]; omega
      · skip
        cases rm
        · have HRM : Hid (rmk false c = false) := by show _ = _; unfold rmk; rw [decide_eq_false hc2, decide_eq_true hc3]; rfl
          have HT := hid_of (HIN.out (by rw [hc]; rfl))
          rw [HRM.out] at HT
          clear HOUT HIN HRM
          rcases HBG.out with ⟨rfl, rfl⟩ | ⟨b, rfl, hb, rfl⟩
          · go_wp2_with fail
            refine (HPA.out _).mono ?_
            rintro e w' ⟨rfl, rfl⟩
            rw [hg]
            go_wp2
            go_roundw
            case rel => exact ⟨p + n, f - 1, k + 1, k, false, (p : Int), some (p, k), acc, by go_num, rfl, rfl, rfl, HSP.out, by omega, by omega, by omega, by omega, Or.inr ⟨p, rfl, by omega, rfl⟩, HT, HV2⟩
            case measure => rw [HPOS.out, HPO2.out]; omega
          · go_wp2_with fail
            refine (HPA.out _).mono ?_
            rintro e w' ⟨rfl, rfl⟩
            rw [hg]
            go_wp2
            go_roundw
            case rel => exact ⟨p + n, f - 1, k + 1, a, false, (b : Int), some (b, a), acc, by go_num, rfl, rfl, rfl, HSP.out, by omega, by omega, by omega, by omega, Or.inr ⟨b, rfl, by omega, rfl⟩, HT, HV2⟩
            case measure => rw [HPOS.out, HPO2.out]; omega
        · have HRM : Hid (rmk true c = true) := by show _ = _; unfold rmk; rw [decide_eq_false hc2, decide_eq_true hc3]; rfl
          have HT := hid_of (HOUT.out (by rw [hc]; rfl))
          rw [HRM.out] at HT
          clear HOUT HIN HRM
          rcases HBG.out with ⟨rfl, rfl⟩ | ⟨b, rfl, hb, rfl⟩
          · go_wp2
            go_roundw
            case rel => exact ⟨p + n, f - 1, k + 1, a, true, -1, none, acc, by go_num, rfl, rfl, rfl, HSP.out, by omega, by omega, by omega, by omega, Or.inl ⟨rfl, rfl⟩, (by have h := HT.out; simp only [fin, List.append_nil] at h; exact h), HV2⟩
            case measure => rw [HPOS.out, HPO2.out]; omega
          · go_wp2_with (first | (at_builtin; obtain ⟨hi0, hz0, hz1, hz2⟩ := HI.out; refine wpList_append_own _ rfl _ _ 49 rfl (w.heap.size + 1) 52 i0 (.agg #[.string ⟨#[]⟩, .int .i64 0]) 2 24 (by kernel_rfl) hi0 hz0 hz1 hz2 rfl (by decide) _ _ _ rfl (HSP.out.ow.alloc _) _ 1 1 [.string (s.extract b p), .int .i64 (a : Int)] rfl rfl (lit_cells _ #[.string (s.extract b p), .int .i64 (a : Int)] 52) (by intro u hu; simp at hu; rcases hu with rfl | rfl <;> rfl) (by unfold maxLen; omega) (by omega) (by have := HLT.out; simp; omega) ?_; intro v' w1 ho3 hgr _; obtain ⟨g', cap', rfl, hg1', hg2', hg3'⟩ := own_shape ho3 (by omega); have HGR := hid_of hgr; have HO3 := hid_of ho3; clear hgr ho3 hi0 hz0 hz1 hz2 hg1' hg2' hg3'))
            go_roundw
            case rel => exact ⟨p + n, f - 1, k + 1, a, true, -1, none, acc ++ [(s.extract b p, a)], by go_num, rfl, rfl, rfl, ⟨(HGR.out.block w.heap.size (by have := HLT.out; simp; omega) (fun e => by have := own_low2 HSP.out.ow e; omega)).trans (by rw [heap_alloc_lt _ _ _ HLT.out]; exact HSP.out.it), by rw [List.length_append, cells2_snoc]; exact HO3.out, (bal HSP.out.be _).grown HGR.out (by have := HLT.out; simp; omega) (own_low HSP.out.ow)⟩, by omega, by omega, by omega, by rw [List.length_append]; show _ + 1 ≤ _; omega, Or.inl ⟨rfl, rfl⟩, HT, HV2⟩
            case measure => rw [HPOS.out]; have hit := (HGR.out.block w.heap.size (by have := HLT.out; simp; omega) (fun e => by have := own_low2 HSP.out.ow e; omega)).trans ((heap_alloc_lt _ _ _ HLT.out).trans HSP.out.it); simp only [World.iterPos, hit]; omega
    · have hnx : ∀ ty, (Instr.next (.pointer (some ⟨w.heap.size, 0, none⟩)) true ty).run Tryd.prog wr = _ := fun ty => run_next_end_at wr w.heap.size s p ty hsp.it hp
      have HE : Hid (acc ++ fin s p cur = spl s) := by show _ = _; rw [← HS.out, spl_end s f p k rm cur hp]
      have hpe : p = s.size := by omega
      rcases HBG.out with ⟨rfl, rfl⟩ | ⟨b, rfl, hb, rfl⟩
      · have HE2 : Hid (acc = spl s) := by show _ = _; rw [← HE.out]; simp [fin]
        obtain ⟨v, hvv⟩ : ∃ v, v = u3 := ⟨_, rfl⟩
        go_wp2
        obtain ⟨ad, ln, cp, hsh⟩ := own_slice hsp.ow
        subst hsh
        go_ret
        refine ⟨_, rfl, ?_, hsp.be⟩
        rw [← HE2.out]
        exact own_mono hsp.ow (by omega)
      · have HE2 : Hid (acc ++ [(s.extract b p, a)] = spl s) := HE.out
        have hsz := hsp.be.size
        have hlt := lt_of_block hsp.it
        have HLT := hid_of hlt
        have HSP := hid_of hsp
        clear hlt hsp
        subst hpe
        go_wp2_with (at_builtin; obtain ⟨hi0, hz0, hz1, hz2⟩ := HI.out; refine wpList_append_own _ rfl _ _ 49 rfl (w.heap.size + 1) 52 i0 (.agg #[.string ⟨#[]⟩, .int .i64 0]) 2 24 (by kernel_rfl) hi0 hz0 hz1 hz2 rfl (by decide) _ _ _ rfl (HSP.out.ow.alloc _) _ 1 1 [.string (s.extract b s.size), .int .i64 (a : Int)] rfl rfl (lit_cells _ #[.string (s.extract b s.size), .int .i64 (a : Int)] 52) (by intro u hu; simp at hu; rcases hu with rfl | rfl <;> rfl) (by unfold maxLen; omega) (by omega) (by have := HLT.out; simp; omega) ?_; intro v' w1 ho3 hgr _; obtain ⟨g', cap', rfl, hg1', hg2', hg3'⟩ := own_shape ho3 (by omega); have HGR := hid_of hgr; have HO3 := hid_of ho3; clear hgr ho3 hi0 hz0 hz1 hz2 hg1' hg2' hg3')
        go_ret
        refine ⟨_, rfl, ?_, (bal HSP.out.be _).grown HGR.out (by have := HLT.out; simp; omega) (own_low HSP.out.ow)⟩
        rw [← HE2.out, List.length_append, cells2_snoc]
        exact own_mono HO3.out (by omega)
end cin
end Go.Proofs.YtohoajjdoihekaaDoor
