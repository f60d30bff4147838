/-
  The code that lays a number, the program's way.
-/
import Derived.Test.YtohoajjdoihekaaDoorTs
import Derived.Laws.ShiftsVarLaws
set_option linter.unusedVariables false
set_option linter.unusedSimpArgs false
namespace Go.Proofs.YtohoajjdoihekaaDoor
open Go.RowKit
namespace cin
def u8v (b : UInt8) : Value := .int .u8 (b.toNat : Int)
/-- a slice of the call's own that holds these bytes -/
def Bys (w : World) (base : Nat) (v : Value) (l : List UInt8) : Prop := w.ownsRow base 5 1 v l.length (l.map u8v)
theorem hid_of {p : Prop} (h : p) : Hid p := h
theorem lit_cells (w : World) (cs : Array Value) (t : TypeId) : ∀ j u, cs.toList[j]? = some u → (w.alloc (.cells cs t)).cell? ((⟨w.heap.size, 0, none⟩ : Addr).add j) = some u := fun j u h => by
  have e : (⟨w.heap.size, 0, none⟩ : Addr).add j = ⟨w.heap.size, j, none⟩ := by simp [Addr.add, eq_comm]
  rw [e, cell_of_row _ w.heap.size j cs t (0, 0) (heap_alloc_new w _)]
  simpa using h
theorem info_u8 : (Tryd.prog.info? 5).map (fun i => (i.zero, i.size, i.bytes)) = some (some (.int .u8 0), 1, 1) := by kernel_rfl
theorem own_shape {w : World} {base e size : Nat} {v : Value} {n : Nat} {xs : List Value} (h : w.ownsRow base e size v n xs) (hn : n ≠ 0) : ∃ g cap : Nat, v = .slice (some ⟨g, 0, none⟩) n cap ∧ base ≤ g ∧ g < w.heap.size ∧ n ≤ cap := by
  rcases h.2 with ⟨_, h0⟩ | ⟨g, cap, cur, hv, hb, hg, hnc, _⟩
  · exact absurd h0 hn
  · exact ⟨g, cap, hv, hb, lt_of_block hg, hnc⟩
def bys (n m : Nat) : List UInt8 := (List.range (32 - m)).map fun j => UInt8.ofNat (byn n (31 - j))
/-- the bytes from the highest down to number m, without the noughts ahead -/
def pl (n m : Nat) : List UInt8 := (bys n m).dropWhile (· == 0)
theorem bys_step (n i : Nat) (hi : i < 32) : bys n i = bys n (i + 1) ++ [UInt8.ofNat (byn n i)] := by
  unfold bys
  rw [show 32 - i = (32 - (i + 1)) + 1 by omega, List.range_succ, List.map_append, List.map_cons, List.map_nil, show 31 - (32 - (i + 1)) = i by omega]
theorem byn_lt (n i : Nat) : byn n i < 256 := Nat.mod_lt _ (by omega)
theorem ofNat_byn (n i : Nat) : (UInt8.ofNat (byn n i)).toNat = byn n i := UInt8.toNat_ofNat_of_lt' (byn_lt n i)
theorem pl_more (n i : Nat) (hi : i < 32) (h : byn n i ≠ 0 ∨ pl n (i + 1) ≠ []) : pl n i = pl n (i + 1) ++ [UInt8.ofNat (byn n i)] := by
  unfold pl at *
  rw [bys_step n i hi, List.dropWhile_append]
  by_cases he : (bys n (i + 1)).dropWhile (· == 0) = []
  · rw [he] at h ⊢
    have h0 : byn n i ≠ 0 := h.resolve_right (fun k => k rfl)
    have : (UInt8.ofNat (byn n i) == 0) = false := by
      rw [beq_eq_false_iff_ne]
      intro e
      have := congrArg UInt8.toNat e
      rw [ofNat_byn] at this
      exact h0 this
    rw [List.isEmpty_nil, if_pos rfl, List.dropWhile_cons, this]
    rfl
  · rw [if_neg]
    rw [List.isEmpty_iff]
    exact he
theorem pl_same (n i : Nat) (hi : i < 32) (h0 : byn n i = 0) (he : pl n (i + 1) = []) : pl n i = [] := by
  unfold pl at *
  rw [bys_step n i hi, List.dropWhile_append, he, h0]
  rfl
theorem pl_len (n m : Nat) : (pl n m).length ≤ 32 := by
  unfold pl bys
  have h1 := (List.dropWhile_suffix (fun x : UInt8 => x == 0) (l := (List.range (32 - m)).map fun j => UInt8.ofNat (byn n (31 - j)))).length_le
  rw [List.length_map, List.length_range] at h1
  omega
/-- the code so far -/
def pcs (n m : Nat) : List UInt8 := UInt8.ofNat (95 + (pl n m).length) :: pl n m
def pcode (n : Nat) : List UInt8 := pcs n 0
theorem head_nat (n m : Nat) : (UInt8.ofNat (95 + (pl n m).length)).toNat = 95 + (pl n m).length := by
  have h := pl_len n m
  exact UInt8.toNat_ofNat_of_lt' (by show _ < 256; omega)
theorem Bys.mono {w : World} {b c : Nat} {v : Value} {l : List UInt8} (h : Bys w b v l) (hc : c ≤ b) : Bys w c v l :=
  ⟨h.1, h.2.imp id fun ⟨g, cap, cur, a1, a2, a3⟩ => ⟨g, cap, cur, a1, Nat.le_trans hc a2, a3⟩⟩
theorem Bys.len {w : World} {b n : Nat} {v : Value} {l : List UInt8} (h : Bys w b v l) (hl : l.length = n) : w.ownsRow b 5 1 v n (l.map u8v) := by subst hl; exact h
theorem Bys.alloc {w : World} {base : Nat} {v : Value} {l : List UInt8} (h : Bys w base v l) (o : Obj) : Bys (w.alloc o) base v l := World.ownsRow.alloc h o
theorem pcs_step {w w' : World} {base : Nat} {g n i cap : Nat} (hi : i < 32) (h : byn n i ≠ 0 ∨ pl n (i + 1) ≠ []) (ho : w.ownsRow base 5 1 (.slice (some ⟨g, 0, none⟩) ((pcs n (i + 1)).length + 1) cap) ((pcs n (i + 1)).length + 1) ((pcs n (i + 1)).map u8v ++ [.int .u8 (byn n i : Int)])) :
    Bys (w.setCell ⟨g, 0, none⟩ (.int .u8 ((95 + (pl n (i + 1)).length : Nat) + 1 : Int))) base (.slice (some ⟨g, 0, none⟩) ((pcs n (i + 1)).length + 1) cap) (pcs n i) := by
  have hs := (ho.stored 0 (.int .u8 ((95 + (pl n (i + 1)).length : Nat) + 1 : Int))).1
  have e1 : pcs n i = UInt8.ofNat (95 + (pl n i).length) :: (pl n (i + 1) ++ [UInt8.ofNat (byn n i)]) := by unfold pcs; rw [pl_more n i hi h]
  have hl : (pl n i).length = (pl n (i + 1)).length + 1 := by rw [pl_more n i hi h, List.length_append]; rfl
  have e2 : (pcs n i).length = (pcs n (i + 1)).length + 1 := by unfold pcs; rw [List.length_cons, List.length_cons, hl]
  unfold Bys
  rw [e2]
  have e3 : (pcs n i).map u8v = ((pcs n (i + 1)).map u8v ++ [Value.int .u8 (byn n i : Int)]).set 0 (.int .u8 ((95 + (pl n (i + 1)).length : Nat) + 1 : Int)) := by
    rw [e1]
    unfold pcs
    rw [List.map_cons, List.map_cons, List.cons_append, List.set_cons_zero, List.map_append]
    congr 1
    · unfold u8v
      rw [head_nat, hl]
      congr 1
    · unfold u8v
      rw [List.map_cons, List.map_nil, ofNat_byn]
  rw [e3]
  exact hs
set_option maxRecDepth 100000 in
set_option maxHeartbeats 4000000 in
theorem push_any (n : Nat) (w : World) : Calls Tryd.prog 30 #[wv n] w fun e w' => ∃ v, e = .returned v ∧ Bys w' w.heap.size v (pcode n) ∧ Below w.heap.size w w' := by
  obtain ⟨i0, hi0, hz0, hz1, hz2⟩ := info_parts info_u8
  have hr0 : (w.alloc (.cells #[.int .u64 (limb n 0), .int .u64 (limb n 1), .int .u64 (limb n 2), .int .u64 (limb n 3)] 58)).rowIs w.heap.size 58 4 (u64s (limb n)) := row_lit4 (limb n) rfl rfl rfl rfl rfl
  go_enter Tryd.func30, Tryd.ntmps30
  go_wp2
  go_loopw [3, 4] (fun t3 t4 wr => ∃ m : Nat, m ≤ 32 ∧ t4 = .int .i64 ((m : Int) - 1) ∧ wr.rowIs w.heap.size 58 4 (u64s (limb n)) ∧ Bys wr (w.heap.size + 1) t3 (pcs n m) ∧ Below w.heap.size w wr)
     (fun _ t4 _ => (intOf t4 + 1).toNat)
  case atStart =>
    refine ⟨32, by omega, rfl, hr0.alloc _, ?_, bal (bal (Below.refl _ _) _) _⟩
    have h := World.ownsRow_lit (base := w.heap.size + 1) (e := 5) (size := 1) (w.alloc (.cells #[.int .u64 (limb n 0), .int .u64 (limb n 1), .int .u64 (limb n 2), .int .u64 (limb n 3)] 58)) #[.int .u8 95] 1 (by simp) (by decide) rfl
    simp at h
    exact h
  case round =>
    obtain ⟨m, hm, ht4, hr, ho, hbel⟩ := hrel
    by_cases h0 : m = 0
    · subst h0
      obtain ⟨g, cap, rfl, hg1, hg2, hg3⟩ := own_shape ho (by unfold pcs; simp)
      rw [show ((0 : Nat) : Int) - 1 = -1 from rfl] at ht4
      subst ht4
      go_wp2
      go_ret
      exact ⟨_, rfl, ho.mono (by omega), hbel⟩
    · obtain ⟨i, rfl⟩ : ∃ i, m = i + 1 := ⟨m - 1, by omega⟩
      rw [show ((i + 1 : Nat) : Int) - 1 = (i : Int) by omega] at ht4
      subst ht4
      have hq4 : i / 8 < 4 := by omega
      have ca := hr.cell hq4
      simp only [u64s, limb_lb] at ca
      have hbyte := byn_lb n (i / 8) (i % 8) (by omega)
      rw [show 8 * (i / 8) + i % 8 = i by omega] at hbyte
      obtain ⟨q, hq⟩ : ∃ q, i / 8 = q := ⟨_, rfl⟩
      obtain ⟨r, hr8⟩ : ∃ r, i % 8 = r := ⟨_, rfl⟩
      rw [hq] at hbyte ca hq4
      rw [hr8] at hbyte
      have hqi : (i : Int) / 8 = (q : Int) := by omega
      have hri : (i : Int) % 8 = (r : Int) := by omega
      have hr7 : r < 8 := by omega
      clear hq hr8
      have hll := lb_lt n q
      generalize lb n q = v at *
      obtain ⟨c, HC⟩ : ∃ c, Hid (c = byn n i) := ⟨_, rfl⟩
      have hval : (v : Int) / 2 ^ (r * 8) % 256 = (c : Int) := by
        rw [HC.out, ← hbyte, Nat.mul_comm 8 r]
        push_cast
        rfl
      have hc256 : c < 256 := by rw [HC.out]; exact byn_lt n i
      obtain ⟨k, HK⟩ : ∃ k, Hid (k = (pl n (i + 1)).length) := ⟨_, rfl⟩
      have hk32 : k ≤ 32 := by rw [HK.out]; exact pl_len n _
      have HPL : Hid ((pcs n (i + 1)).length = k + 1) := by show _ = _; unfold pcs; rw [List.length_cons, HK.out]
      have ho2 := ho.len HPL.out
      obtain ⟨g, cap, rfl, hg1, hg2, hg3⟩ := own_shape ho2 (by omega)
      have HEAD : Hid ((pcs n (i + 1)).map u8v = .int .u8 ((95 + k : Nat) : Int) :: (pl n (i + 1)).map u8v) := by
        show _ = _
        unfold pcs
        rw [List.map_cons, HK.out]
        unfold u8v
        rw [head_nat]
      have hsz := hbel.size
      by_cases hmore : c ≠ 0 ∨ 0 < k
      · have HM : Hid (byn n i ≠ 0 ∨ pl n (i + 1) ≠ []) := by
          show _ ∨ _
          rw [← HC.out]
          exact hmore.imp id fun h e => by rw [HK.out, e] at h; simp at h
        have HCELL : Hid (∀ (x : World) (g' cap' : Nat), x.ownsRow (w.heap.size + 1) 5 1 (.slice (some ⟨g', 0, none⟩) (k + 1 + 1) cap') (k + 1 + 1) ((pcs n (i + 1)).map u8v ++ [.int .u8 (c : Int)]) → x.cell? ⟨g', 0, none⟩ = some (.int .u8 (95 + (k : Int))) ∧ x.frozen? ⟨g', 0, none⟩ = false) := fun x g' cap' h => by
          refine ⟨?_, h.frozenAt 0⟩
          rw [h.cellAt 0 (by omega), HEAD.out]
          simp
        have HSTEP : Hid (∀ (x : World) (g' cap' : Nat), x.ownsRow (w.heap.size + 1) 5 1 (.slice (some ⟨g', 0, none⟩) (k + 1 + 1) cap') (k + 1 + 1) ((pcs n (i + 1)).map u8v ++ [.int .u8 (c : Int)]) → Bys (x.setCell ⟨g', 0, none⟩ (.int .u8 (95 + (k : Int) + 1))) (w.heap.size + 1) (.slice (some ⟨g', 0, none⟩) (k + 1 + 1) cap') (pcs n i)) := fun x g' cap' h => by
          have h2 := pcs_step (w := x) (w' := x) (g := g') (cap := cap') (base := w.heap.size + 1) (by omega) HM.out (by rw [HPL.out, ← HC.out]; exact h)
          rw [HPL.out, ← HK.out] at h2
          exact h2
        have hdk : decide (1 < (k : Int) + 1) = decide (0 < k) := by rw [Bool.eq_iff_iff]; simp; omega
        by_cases hc0 : c = 0
        · have hk0 : 0 < k := by omega
          subst hc0
          go_wp2_with (at_builtin; refine wpList_append_own _ rfl _ _ 32 rfl (w.heap.size + 1) 5 i0 (.int .u8 0) 1 1 (by kernel_rfl) hi0 hz0 hz1 hz2 rfl (by decide) _ _ _ rfl (ho2.alloc _) ⟨wr.heap.size, 0, none⟩ 1 1 [.int .u8 0] rfl rfl (lit_cells wr #[.int .u8 0] 5) (by intro u hu; simp at hu; subst hu; rfl) (by unfold maxLen; omega) (by omega) (by simp; omega) ?_; intro v' w1 ho3 hgr _; obtain ⟨g', cap', rfl, hg1', hg2', hg3'⟩ := own_shape ho3 (by omega); obtain ⟨hc1, hc2⟩ := HCELL.out w1 g' cap' ho3; have HGR := hid_of hgr; have HO3 := hid_of ho3; clear hgr ho3 hi0 hz0 hz1 hz2 ho ho2)
          have hgr := HGR.out
          have ho3 := HO3.out
          have HB2 : Hid (Bys (w1.setCell ⟨g', 0, none⟩ (.int .u8 (95 + (k : Int) + 1))) (w.heap.size + 1) (.slice (some ⟨g', 0, none⟩) (k + 1 + 1) cap') (pcs n i)) := HSTEP.out w1 g' cap' ho3
          have hr2 : w1.rowIs w.heap.size 58 4 (u64s (limb n)) := (hr.alloc _).of_block (hgr.block w.heap.size (by simp; omega) (fun e => by have e2 : w.heap.size = g := Option.some.inj e; omega))
          have hbel2 : Below w.heap.size w w1 := (bal hbel _).grown hgr (by simp; omega) (fun k e => by have e2 : g = k := Option.some.inj e; omega)
          go_roundw
          case rel => exact ⟨i, by omega, by go_num, hr2.setOther (by simp; omega) _, HB2.out, bset hbel2 (by simp; omega) _⟩
          case measure => simp [intOf]
        · have hc1 : ((c : Int) != 0) = true := by simp; omega
          go_wp2_with (at_builtin; refine wpList_append_own _ rfl _ _ 32 rfl (w.heap.size + 1) 5 i0 (.int .u8 0) 1 1 (by kernel_rfl) hi0 hz0 hz1 hz2 rfl (by decide) _ _ _ rfl (ho2.alloc _) ⟨wr.heap.size, 0, none⟩ 1 1 [.int .u8 (c : Int)] rfl rfl (lit_cells wr #[.int .u8 (c : Int)] 5) (by intro u hu; simp at hu; subst hu; rfl) (by unfold maxLen; omega) (by omega) (by simp; omega) ?_; intro v' w1 ho3 hgr _; obtain ⟨g', cap', rfl, hg1', hg2', hg3'⟩ := own_shape ho3 (by omega); obtain ⟨hc1, hc2⟩ := HCELL.out w1 g' cap' ho3; have HGR := hid_of hgr; have HO3 := hid_of ho3; clear hgr ho3 hi0 hz0 hz1 hz2 ho ho2)
          have hgr := HGR.out
          have ho3 := HO3.out
          have HB2 : Hid (Bys (w1.setCell ⟨g', 0, none⟩ (.int .u8 (95 + (k : Int) + 1))) (w.heap.size + 1) (.slice (some ⟨g', 0, none⟩) (k + 1 + 1) cap') (pcs n i)) := HSTEP.out w1 g' cap' ho3
          have hr2 : w1.rowIs w.heap.size 58 4 (u64s (limb n)) := (hr.alloc _).of_block (hgr.block w.heap.size (by simp; omega) (fun e => by have e2 : w.heap.size = g := Option.some.inj e; omega))
          have hbel2 : Below w.heap.size w w1 := (bal hbel _).grown hgr (by simp; omega) (fun k e => by have e2 : g = k := Option.some.inj e; omega)
          go_roundw
          case rel => exact ⟨i, by omega, by go_num, hr2.setOther (by simp; omega) _, HB2.out, bset hbel2 (by simp; omega) _⟩
          case measure => simp [intOf]
      · have hc0 : c = 0 := by omega
        have hk0 : k = 0 := by omega
        subst hc0 hk0
        have HB2 : Hid (Bys wr (w.heap.size + 1) (.slice (some ⟨g, 0, none⟩) (0 + 1) cap) (pcs n i)) := by
          have e : pl n (i + 1) = [] := List.length_eq_zero_iff.1 HK.out.symm
          have e2 : pcs n i = pcs n (i + 1) := by
            unfold pcs
            rw [e, pl_same n i (by omega) HC.out.symm e]
          show Bys _ _ _ _
          rw [e2]
          exact ho
        go_wp2
        go_roundw
        case rel => exact ⟨i, by omega, by go_num, hr, HB2.out, hbel⟩
        case measure => simp [intOf]
end cin
end Go.Proofs.YtohoajjdoihekaaDoor
