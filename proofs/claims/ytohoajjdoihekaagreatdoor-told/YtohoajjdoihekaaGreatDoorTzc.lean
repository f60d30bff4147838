import Derived.Test.YtohoajjdoihekaaGreatDoorTt
import Derived.Laws.CopyRow
import Derived.Laws.CopyOwn
set_option linter.unusedVariables false
set_option linter.unusedSimpArgs false
namespace Go.Proofs.YtohoajjdoihekaaGreatDoor
namespace cin
section
open Go.RowKit
theorem und_bs : Tryz.prog.underlying 26 = some (.slice 5) := by kernel_rfl
theorem sz_u8 : (Tryz.prog.info? 5).map (·.size) = some 1 := by kernel_rfl
theorem u8v_one (l : List UInt8) : ∀ v ∈ l.map u8v, v.oneCell' = true := by
 intro v hv
 obtain ⟨b, _, rfl⟩ := List.mem_map.1 hv
 rfl
theorem u8v_map (s : ByteArray) : List.map (fun b : UInt8 => Value.int IntKind.u8 (b.toNat : Int)) s.data.toList = (bl s).map u8v := rfl
theorem copy_str_P {P : Program} (w : World) (ty g o dLen dCap k : Nat) (s : ByteArray) (cur : Array Value) (t : TypeId) {dT sT elem : TypeId} (hu : P.underlying dT = some (.slice elem)) (hs : (P.info? elem).map (·.size) = some 1)
  (hg : w.heap[g]? = some (.cells cur t (0, 0))) (hk : k = Nat.min s.size dLen) (hfit : o + k ≤ cur.size) :
  (Builtin.copy_ #[dT, sT] ty #[.slice (some ⟨g, o, none⟩) dLen dCap, .string s]).run P w =
   .ok (goInt k) (w.setRow g (cur.toList.take o ++ ((bl s).map u8v).take k ++ cur.toList.drop (o + k)).toArray) := by
 subst hk
 have hlen : (((bl s).map u8v).take (Nat.min s.size dLen)).length = Nat.min s.size dLen := by
  rw [List.length_take, List.length_map, bl_len]
  exact Nat.min_eq_left (Nat.min_le_left _ _)
 have hst := run_storeCells_at P g o t (((bl s).map u8v).take (Nat.min s.size dLen)) 0 cur w hg (by rw [hlen]; simpa using hfit) (fun v hv => u8v_one _ v (List.mem_of_mem_take hv))
 rw [hlen] at hst
 simp only [Nat.add_zero] at hst
 cases hq : P.info? elem with
 | none => rw [hq] at hs; cases hs
 | some i =>
  simp [Builtin.copy_, run_underlying hu, Builtin.lenOf, Builtin.firstCells, sizeOf, typeInfo, hq]
  rw [u8v_map, hst]
  simp [Result.andThen]
theorem copy_str (w : World) (g o dLen dCap k : Nat) (s : ByteArray) (cur : Array Value) (t : TypeId) (hg : w.heap[g]? = some (.cells cur t (0, 0))) (hk : k = Nat.min s.size dLen) (hfit : o + k ≤ cur.size) (ty sT : TypeId) :
  (Builtin.copy_ #[26, sT] ty #[.slice (some ⟨g, o, none⟩) dLen dCap, .string s]).run Tryz.prog w =
   .ok (goInt k) (w.setRow g (cur.toList.take o ++ ((bl s).map u8v).take k ++ cur.toList.drop (o + k)).toArray) := copy_str_P w ty g o dLen dCap k s cur t und_bs sz_u8 hg hk hfit
def pieceL (s : ByteArray) (p n : Nat) : List UInt8 := ((bl s).drop p).take n ++ List.replicate (n - (s.size - p)) 0
theorem pieceL_len (s : ByteArray) (p n : Nat) : (pieceL s p n).length = n := by
 unfold pieceL
 rw [List.length_append, List.length_take, List.length_drop, List.length_replicate, bl_len]
 omega
theorem pieceL_out (s : ByteArray) (p n : Nat) (h : s.size ≤ p) : pieceL s p n = List.replicate n 0 := by
 unfold pieceL
 rw [List.drop_of_length_le (by rw [bl_len]; exact h), List.take_nil, List.nil_append, show n - (s.size - p) = n by omega]
theorem made_zero (n : Nat) : (madeCells #[.int .u8 0] n).toList = (List.replicate n (0 : UInt8)).map u8v := by
 rw [List.map_replicate, List.eq_replicate_iff]
 unfold madeCells
 refine ⟨by simp, fun b hb => ?_⟩
 simp at hb
 obtain ⟨x, _, rfl⟩ := hb
 rw [Nat.mod_one]
 rfl
theorem pieceL_cells (s : ByteArray) (m n k : Nat) (hm : m ≤ s.size) (hk : k = Nat.min (s.size - m) n) :
  ((bl (s.extract m s.size)).map u8v).take k ++ ((List.replicate n (0 : UInt8)).map u8v).drop k = (pieceL s m n).map u8v := by
 unfold pieceL
 rw [bl_sub, List.take_of_length_le (l := List.drop m (bl s)) (by rw [List.length_drop, bl_len]; omega), List.map_append, ← List.map_take, ← List.map_drop, List.drop_replicate, hk]
 congr 2
 ·by_cases h : s.size - m ≤ n
  ·rw [show Nat.min (s.size - m) n = s.size - m from Nat.min_eq_left h, List.take_of_length_le (by rw [List.length_drop, bl_len]; omega), List.take_of_length_le (by rw [List.length_drop, bl_len]; omega)]
  ·rw [show Nat.min (s.size - m) n = n from Nat.min_eq_right (by omega)]
 ·congr 1
  by_cases h : s.size - m ≤ n
  ·rw [show Nat.min (s.size - m) n = s.size - m from Nat.min_eq_left h]
  ·rw [show Nat.min (s.size - m) n = n from Nat.min_eq_right (by omega)]; omega
theorem bys_row {w : World} {base g n : Nat} {l : List UInt8} (hl : l.length = n) (hb : base ≤ g) (hg : w.heap[g]? = some (.cells (l.map u8v).toArray 5 (0, 0))) (hn : n ≤ 100000) : Bys w base (.slice (some ⟨g, 0, none⟩) n n) l := by
 subst hl
 refine ⟨by simp, Or.inr ⟨g, l.length, (l.map u8v).toArray, rfl, hb, hg, Nat.le_refl _, ?_, by simp, by rw [Nat.mul_one]; exact List.take_of_length_le (by simp)⟩⟩
 unfold maxLen
 omega
set_option maxRecDepth 100000 in
set_option maxHeartbeats 2000000 in
theorem piece_any (s : ByteArray) (p n : Nat) (hs : s.size ≤ 100000) (hn : n ≤ 100000) (w : World) : Calls Tryz.prog 261 #[.string s, wv p, .int .i64 (n : Int)] w fun e w' => ∃ v, e = .returned v ∧ Bys w' w.heap.size v (pieceL s (p % M) n) ∧ Below w.heap.size w w' := by
 have hmk := make_bytes n (by omega)
 have hs1 := hid_of' ((W1.start w p).alloc (.cells (madeCells #[.int .u8 0] n) 5))
 have hg0 : Hid (((w.alloc (wc p)).alloc (.cells (madeCells #[.int .u8 0] n) 5)).heap[w.heap.size + 1]? = some (.cells (madeCells #[.int .u8 0] n) 5 (0, 0))) := by
  have h := heap_alloc_new (w.alloc (wc p)) (.cells (madeCells #[.int .u8 0] n) 5)
  rw [show (w.alloc (wc p)).heap.size = w.heap.size + 1 by simp] at h
  exact h
 by_cases hp : p % M ≤ s.size
 ·have HU := hid_of' (upTo_in p s.size (by omega) hp)
  go_enter Tryz.func261, Tryz.ntmps261
  go_wp2_with fail
  go_at_call 284
  refine (HU.out _).mono ?_
  rintro e w1 ⟨m, HMM, rfl, hb1⟩
  have hle : m ≤ s.size := by rw [HMM.out]; exact hp
  obtain ⟨k, HK⟩ : ∃ k, Hid (k = Nat.min (s.size - m) n) := ⟨_, rfl⟩
  have hkn : k ≤ n := by rw [HK.out]; exact Nat.min_le_right _ _
  have hsz : (s.extract m s.size).size = s.size - m := by rw [ByteArray.size_extract]; omega
  have hg1 : w1.heap[w.heap.size + 1]? = some (.cells (madeCells #[.int .u8 0] n) 5 (0, 0)) := (hb1.block _ (by simp)).trans hg0.out
  have hmz : (madeCells #[.int .u8 0] n).size = n := by rw [← Array.length_toList, made_zero]; simp
  have hcp := copy_str w1 (w.heap.size + 1) 0 n n k (s.extract m s.size) (madeCells #[.int .u8 0] n) 5 hg1 (by rw [hsz]; exact HK.out) (by omega)
  have HB := hid_of' (hs1.out.call hb1).be
  have HG := hid_of' hg1
  clear hg1 hb1 hsz hg0 hs1 HU hp hmk
  go_wp2
  go_ret
  refine ⟨_, rfl, bys_row (pieceL_len _ _ _) (by omega) ?_ hn, below_setRow HB.out (by omega) _⟩
  rw [setRow_heap _ _ _ _ _ _ HG.out, made_zero, pieceL_cells s m n k hle HK.out, HMM.out]
 ·have HU := hid_of' (upTo_out p s.size (by omega) (by omega))
  go_enter Tryz.func261, Tryz.ntmps261
  go_wp2_with fail
  go_at_call 284
  refine (HU.out _).mono ?_
  rintro e w1 ⟨rfl, hb1⟩
  have hg1 : w1.heap[w.heap.size + 1]? = some (.cells (madeCells #[.int .u8 0] n) 5 (0, 0)) := (hb1.block _ (by simp)).trans hg0.out
  have HB := hid_of' (hs1.out.call hb1).be
  have HG := hid_of' hg1
  clear hg1 hb1 hg0 hs1 HU hmk
  go_wp2
  go_ret
  refine ⟨_, rfl, bys_row (pieceL_len _ _ _) (by omega) ?_ hn, HB.out⟩
  rw [pieceL_out _ _ _ (by omega), ← made_zero, Array.toArray_toList]
  exact HG.out
end
section
open Go.RowKit
def ofL (l : List UInt8) : Nat := l.foldl (fun a b => a * 256 + b.toNat) 0
def Rds (w : World) (v : Value) (l : List UInt8) : Prop := ∃ (ad : Option Addr) (cap : Nat), v = .slice ad l.length cap ∧ l.length ≤ cap ∧ (l ≠ [] → ∃ g o : Nat, ad = some ⟨g, o, none⟩ ∧ g < w.heap.size ∧ ∀ i (h : i < l.length), w.cell? ⟨g, o + i, none⟩ = some (u8v l[i]))
theorem Bys.rds {w : World} {base : Nat} {v : Value} {l : List UInt8} (h : Bys w base v l) : Rds w v l := by
 rcases h.2 with ⟨h1, h2⟩ | ⟨g, cap, cur, h1, h2, h3, h4, h5, h6, h7⟩
 ·exact ⟨none, 0, by rw [h1, h2], by omega, fun hl => absurd (List.length_eq_zero_iff.1 h2) hl⟩
 ·subst h1
  refine ⟨some ⟨g, 0, none⟩, cap, rfl, h4, fun _ => ⟨g, 0, rfl, lt_of_block h3, fun i hi => ?_⟩⟩
  have hc := World.ownsRow.cellAt h i (by rw [Nat.mul_one]; exact hi)
  rw [Nat.zero_add, hc, List.getElem?_map, List.getElem?_eq_getElem hi]
  rfl
theorem ofL_snoc (l : List UInt8) (b : UInt8) : ofL (l ++ [b]) = ofL l * 256 + b.toNat := by unfold ofL; rw [List.foldl_append]; rfl
def accL (l : List UInt8) (i : Nat) : Nat := ofL (l.take i) * 2 ^ (8 * (l.length - i))
theorem accL_step (l : List UInt8) (i u : Nat) (h : i < l.length) (hu : u = l.length - 1 - i) : accL l (i + 1) = accL l i + l[i].toNat * 2 ^ (8 * u) ∧ accL l i % 2 ^ (8 * (u + 1)) = 0 := by
 subst hu
 unfold accL
 rw [List.take_succ_eq_append_getElem h, ofL_snoc, show l.length - (i + 1) = l.length - 1 - i by omega, show l.length - i = (l.length - 1 - i) + 1 by omega, show 8 * (l.length - 1 - i + 1) = 8 * (l.length - 1 - i) + 8 by omega, Nat.pow_add]
 refine ⟨?_, ?_⟩
 ·rw [Nat.add_mul, Nat.mul_assoc, Nat.mul_comm 256]
 ·rw [Nat.mul_mod_left]
theorem accL_end (l : List UInt8) : accL l l.length = ofL l := by unfold accL; rw [List.take_length, Nat.sub_self]; simp
theorem accL_zero (l : List UInt8) : accL l 0 = 0 := by unfold accL; rw [List.take_zero]; show 0 * _ = 0; rw [Nat.zero_mul]
theorem or_step (V b u : Nat) (hb : b < 256) (hV : V % 2 ^ (8 * (u + 1)) = 0) : V + b * 2 ^ (8 * u) = V ||| b * 2 ^ (8 * u) := by
 obtain ⟨a, rfl⟩ : ∃ a, V = 2 ^ (8 * (u + 1)) * a := ⟨V / 2 ^ (8 * (u + 1)), by have := Nat.div_add_mod V (2 ^ (8 * (u + 1))); omega⟩
 apply Nat.two_pow_add_eq_or_of_lt
 rw [show 8 * (u + 1) = 8 + 8 * u by omega, Nat.pow_add]
 exact Nat.mul_lt_mul_of_pos_right hb (Nat.two_pow_pos _)
theorem lb_shift (b u j : Nat) (hb : b < 256) : b * 2 ^ (8 * u) / 2 ^ (64 * j) % 18446744073709551616 = if j = u / 8 then b * 2 ^ (8 * (u % 8)) else 0 := by
 by_cases h : j = u / 8
 ·rw [if_pos h, show 8 * u = 64 * j + 8 * (u % 8) by omega, Nat.pow_add, Nat.mul_left_comm, Nat.mul_div_cancel_left _ (Nat.two_pow_pos _)]
  apply Nat.mod_eq_of_lt
  have h2 : 2 ^ (8 * (u % 8)) ≤ 2 ^ 56 := Nat.pow_le_pow_right (by omega) (by omega)
  have h3 : b * 2 ^ (8 * (u % 8)) ≤ 255 * 2 ^ 56 := Nat.mul_le_mul (by omega) h2
  omega
 ·rw [if_neg h]
  by_cases h2 : j < u / 8
  ·obtain ⟨d, hd⟩ : ∃ d, 8 * u = 64 * j + (64 + d) := ⟨8 * u - 64 * j - 64, by omega⟩
   rw [hd, Nat.pow_add, Nat.mul_left_comm, Nat.mul_div_cancel_left _ (Nat.two_pow_pos _), Nat.pow_add, ← Nat.mul_assoc, Nat.mul_comm b, Nat.mul_assoc]
   exact Nat.mul_mod_right _ _
  ·rw [Nat.div_eq_of_lt]
   refine Nat.lt_of_lt_of_le (Nat.mul_lt_mul_of_pos_right hb (Nat.two_pow_pos _)) ?_
   rw [show (256 : Nat) = 2 ^ 8 from rfl, ← Nat.pow_add]
   exact Nat.pow_le_pow_right (by omega) (by omega)
theorem limb_orb (V b u j : Nat) (hb : b < 256) (hV : V % 2 ^ (8 * (u + 1)) = 0) : limb (V + b * 2 ^ (8 * u)) j = if j = u / 8 then bits .or .u64 (limb V j) ((b * 2 ^ (8 * (u % 8)) : Nat) : Int) else limb V j := by
 rw [or_step V b u hb hV, ← bits_or_limb]
 have e : limb (b * 2 ^ (8 * u)) j = ((if j = u / 8 then b * 2 ^ (8 * (u % 8)) else 0 : Nat) : Int) := by
  unfold limb
  rw [lb_shift b u j hb]
 rw [e]
 by_cases h : j = u / 8
 ·rw [if_pos h, if_pos h]
 ·rw [if_neg h, if_neg h]
  unfold limb
  rw [bits_or_u64_nat _ _ (Nat.mod_lt _ (by omega)) (by omega), Nat.or_zero]
set_option maxRecDepth 100000 in
set_option maxHeartbeats 2000000 in
theorem fromBytes_any (l : List UInt8) (hl : l.length ≤ 32) (v : Value) (w : World) (hv : Rds w v l) : Calls Tryz.prog 260 #[v] w fun e w' => e = .returned (wv (ofL l)) ∧ Below w.heap.size w w' := by
 obtain ⟨ad, cap, rfl, hcap, hc⟩ := hv
 go_enter Tryz.func260, Tryz.ntmps260
 go_wp2
 go_loopw [9] (fun t9 wr => ∃ i : Nat, i ≤ l.length ∧ t9 = .int .i64 i ∧ wr.rowIs w.heap.size 24 4 (u64s fun _ => 0) ∧
   wr.rowIs (w.heap.size + 1) 24 4 (u64s (limb (accL l i))) ∧ Below w.heap.size w wr)
   (fun t9 _ => l.length - (intOf t9).toNat)
 case atStart =>
  refine ⟨0, by omega, rfl, (row_lit4 (fun _ => 0) rfl rfl rfl rfl rfl).alloc _, ?_, bal (bal (Below.refl _ _) _) _⟩
  rw [accL_zero]
  exact row_lit4 (limb 0) (by simp) (by decide) (by decide) (by decide) (by decide)
 case round =>
  obtain ⟨i, hi, rfl, hrz, hra, hbel⟩ := hrel
  by_cases hlt : i < l.length
  ·have d : decide ((i : Int) < (l.length : Int)) = true := decide_eq_true (by omega)
   obtain ⟨g, o, rfl, hg, hcell⟩ := hc (by intro e; rw [e] at hlt; cases hlt)
   have c0 : wr.cell? ⟨g, o + i, none⟩ = some (u8v l[i]) := (hbel.cell (by exact hg)).trans (hcell i hlt)
   obtain ⟨u, hu⟩ : ∃ u : Nat, (l.length : Int) - 1 - (i : Int) = (u : Int) := ⟨l.length - 1 - i, by omega⟩
   obtain ⟨hst, hz⟩ := accL_step l i u hlt (by omega)
   have hb : l[i].toNat < 256 := l[i].toNat_lt
   unfold u8v at c0
   generalize l[i].toNat = b at *
   have hu32 : u < 32 := by omega
   clear hc hcell
   have ca := hra.cell (i := u / 8) (by omega)
   have fa := hra.frozen (u / 8)
   simp only [u64s] at ca
   go_wp2
   go_region
   all_goals go_wp2
   all_goals go_roundw
   case rel =>
    refine ⟨i + 1, by omega, by go_num, (hrz.setOther (by simp) _).drew, ?_, (hbel.setCell (by simp) _).drew⟩
    refine World.rowIs.drew ((hra.set (u / 8) _).congr fun j hj => ?_)
    show (if j = u / 8 then _ else _) = _
    simp only [u64s]
    rw [hst, limb_orb _ b u j hb hz]
    by_cases h : j = u / 8
    ·rw [if_pos h, if_pos h, h]
     congr 2
     have h2 : b * 2 ^ (8 * (u % 8)) < 18446744073709551616 := by
      have h2 : 2 ^ (8 * (u % 8)) ≤ 2 ^ 56 := Nat.pow_le_pow_right (by omega) (by omega)
      have h3 : b * 2 ^ (8 * (u % 8)) ≤ 255 * 2 ^ 56 := Nat.mul_le_mul (by omega) h2
      omega
     rw [wrap_mul, Nat.mul_comm (u % 8) 8, Nat.mod_eq_of_lt h2]
    ·rw [if_neg h, if_neg h]
   case measure => simp [intOf]; omega
  ·obtain rfl : i = l.length := by omega
   rw [accL_end] at hra
   obtain ⟨c0, c1, c2, c3⟩ := row_cells4 hra
   obtain ⟨z0, z1, z2, z3⟩ := row_cells4 hrz
   have f0 := hrz.frozen
   go_wp2
   obtain ⟨q0, q1, q2, q3⟩ := row_cells4 (row_set4 hrz (limb (ofL l) 0) (limb (ofL l) 1) (limb (ofL l) 2) (limb (ofL l) 3))
   simp only [pick4] at q0 q1 q2 q3
   refine bodyPost_ret (v := wv (ofL l)) (by simp [results, Tryz.results260, go_sem, q0, q1, q2, q3]) rfl ⟨rfl, ?_⟩
   exact (((hbel.setCell (by simp) _).setCell (by simp) _).setCell (by simp) _).setCell (by simp) _
end
section
open Go.RowKit
set_option maxHeartbeats 8000000
set_option maxRecDepth 100000
def rowCells (n : Nat) (f : Nat → Value) : List Value := (List.range n).map f
theorem rowCells_len (n : Nat) (f : Nat → Value) : (rowCells n f).length = n := by simp [rowCells]
theorem run_loadRow {P : Program} {x : World} {b n : Nat} {T' : TypeId} {f : Nat → Value} (hr : x.rowIs b T' n f) : (loadCells ⟨b, 0, none⟩ n).run P x = .ok (rowCells n f).toArray x := by
 have h := run_loadCells_list (P := P) x ⟨b, 0, none⟩ (rowCells n f) (fun j v hj => by
  have hj2 : j < n := by
   have := (List.getElem?_eq_some_iff.1 hj).1
   rwa [rowCells_len] at this
  have e : (⟨b, 0, none⟩ : Addr).add j = ⟨b, j, none⟩ := by simp [Addr.add, eq_comm]
  rw [e, hr.cell hj2, ← hj]
  simp [rowCells, List.getElem?_map, List.getElem?_range hj2])
 rwa [rowCells_len] at h
variable {s : Act} {x : World} {pos : String} {af : Array Edge} {g : Option (Nat × Bool)} {K : Act → World → Prop} {Q : Exit → Act → World → Prop}
theorem st_loadA {T T' : TypeId} {n : Nat} {f : Nat → Value} {ty : TypeId} (t d b : Nat) (hA : ∀ w, (isAgg T).run Tryz.prog w = .ok true w) (hS : ∀ w, (sizeOf T).run Tryz.prog w = .ok n w)
  (he : s.tmps.getD t undef = .pointer (some ⟨b, 0, none⟩)) (hr : x.rowIs b T' n f) (hK : K (s.put (some d) (.agg (rowCells n f).toArray)) x) :
  Oper.wp Tryz.prog ⟨some d, .load T (.tmp t), ty, pos, af, g⟩ s x K Q := by
 have he2 : s.eval (.tmp t) = .pointer (some ⟨b, 0, none⟩) := he
 have hl := run_loadRow (P := Tryz.prog) hr
 unfold Oper.wp
 simp only [execOp, he2, Instr.loadAt, Instr.sureAddr, loadVar, Sem.run_bind, Sem.run_pure, Result.andThen_ok, hA, hS, if_true, hl]
 exact hK
theorem st_storeA {T T' : TypeId} {n : Nat} {f : Nat → Value} {cs : List Value} {ty : TypeId} (t u b : Nat) (hS : ∀ w, (sizeOf T).run Tryz.prog w = .ok n w) (hn : cs.length = n) (h1 : ∀ v ∈ cs, v.oneCell' = true)
  (he : s.tmps.getD t undef = .pointer (some ⟨b, 0, none⟩)) (hu : s.tmps.getD u undef = .agg cs.toArray) (hr : x.rowIs b T' n f) (hK : K (s.put none undef) (x.setRow b cs.toArray)) :
  Oper.wp Tryz.prog ⟨none, .store T (.tmp t) (.tmp u), ty, pos, af, g⟩ s x K Q := by
 have he2 : s.eval (.tmp t) = .pointer (some ⟨b, 0, none⟩) := he
 have hu2 : s.eval (.tmp u) = .agg cs.toArray := hu
 obtain ⟨c, hb, hc, _⟩ := hr
 have hst := run_storeCells_at Tryz.prog b 0 T' cs 0 c x hb (by omega) h1
 rw [Nat.zero_add, Nat.zero_add, List.take_zero, List.nil_append, List.drop_of_length_le (by rw [Array.length_toList]; omega), List.append_nil] at hst
 have hcs : (Value.agg cs.toArray).cells = cs.toArray := rfl
 unfold Oper.wp
 simp only [execOp, he2, hu2, Instr.storeAt, Instr.sureAddr, storeVar, Sem.run_bind, Sem.run_pure, Result.andThen_ok, hS, hcs, List.size_toArray, hn, ne_eq, not_true_eq_false, if_false, hst]
 exact hK
theorem results_one {P : Program} {fn : Func} {ts : Array Value} {a : Nat} {T : TypeId} {ad : Addr} {n : Nat} {cs : Array Value} {W : World} (hr : fn.results = #[.cell a T]) (ha : ts.getD a undef = .pointer (some ad))
  (hA : ∀ w, (isAgg T).run P w = .ok true w) (hS : ∀ w, (sizeOf T).run P w = .ok n w) (hl : (loadCells ad n).run P W = .ok cs W) : (results fn ts).run P W = .ok (.agg cs) W := by
 rw [Array.getD_eq_getD_getElem?] at ha
 unfold results
 rw [hr]
 simp [ha, asAddr, loadVar, hA, hS, hl]
def arr32 (n : Nat) : Value := .agg ((bys n 0).map u8v).toArray
theorem toBytes_any (n : Nat) (w : World) : Calls Tryz.prog 283 #[wv n] w fun e w' => e = .returned (arr32 n) ∧ Below w.heap.size w w' := by
 go_enter Tryz.func283, Tryz.ntmps283
 go_wp2
 go_loopw [6] (fun t6 wr => ∃ i : Nat, i ≤ 32 ∧ t6 = .int .i64 i ∧ wr.rowIs w.heap.size 24 4 (u64s (limb n)) ∧ wr.rowIs (w.heap.size + 1) 298 32 (u8s fun _ => 0) ∧
   wr.rowIs (w.heap.size + 1 + 1) 298 32 (u8s fun j => if j < i then byn n (31 - j) else 0) ∧ Below w.heap.size w wr)
   (fun t6 _ => 32 - (intOf t6).toNat)
 case atStart =>
  refine ⟨0, by omega, rfl, ((row_lit4 (limb n) rfl rfl rfl rfl rfl).alloc _).alloc _, ?_, ?_, bal (bal (bal (Below.refl _ _) _) _) _⟩
  ·refine World.rowIs.alloc ?_ _
   have h := World.rowIs_alloc (w.alloc (wc n)) (Array.replicate 32 (.int .u8 0)) 298 (u8s fun _ => 0) (fun i hi => by
    have hi2 : i < 32 := by simpa using hi
    simp [u8s, hi2])
   have e : (w.alloc (wc n)).heap.size = w.heap.size + 1 := by simp
   rw [e] at h
   exact h
  ·have h := World.rowIs_alloc ((w.alloc (wc n)).alloc (.cells (Array.replicate 32 (.int .u8 0)) 298)) (Array.replicate 32 (.int .u8 0)) 298 (u8s fun j => if j < 0 then byn n (31 - j) else 0) (fun i hi => by
    have hi2 : i < 32 := by simpa using hi
    simp [u8s, hi2])
   have e : ((w.alloc (wc n)).alloc (.cells (Array.replicate 32 (.int .u8 0)) 298)).heap.size = w.heap.size + 1 + 1 := by simp
   rw [e] at h
   exact h
 case round =>
  obtain ⟨i, hi, rfl, hrw, hrz, hra, hbel⟩ := hrel
  by_cases hlt : i < 32
  ·have d : decide ((i : Int) < 32) = true := decide_eq_true (by omega)
   obtain ⟨u, hu⟩ : ∃ u : Nat, (31 : Int) - (i : Int) = (u : Int) := ⟨31 - i, by omega⟩
   have hu32 : u < 32 := by omega
   have cw := hrw.cell (i := u / 8) (by omega)
   have ca := hra.cell hlt
   have fa := hra.frozen i
   have hby := byn_lb n (u / 8) (u % 8) (by omega)
   rw [show 8 * (u / 8) + u % 8 = u by omega] at hby
   simp only [u64s, limb_lb] at cw
   simp only [u8s] at ca
   go_wp2
   refine ⟨⟨i + 1, by omega, by go_num, hrw.setOther (by simp; omega) _, hrz.setOther (by simp) _, (hra.set i _).congr fun j hj => ?_, hbel.setCell (by simp; omega) _⟩, by simp [intOf]; omega⟩
   show (if j = i then _ else _) = _
   simp only [u8s]
   by_cases h : j = i
   ·rw [if_pos h, if_pos (by omega), show 31 - j = u by omega, ← hby, Nat.mul_comm (u % 8) 8]
    congr 1
   ·rw [if_neg h]
    by_cases h2 : j < i
    ·rw [if_pos h2, if_pos (by omega)]
    ·rw [if_neg h2, if_neg (by omega)]
  ·obtain rfl : i = 32 := by omega
   have d : decide (((32 : Nat) : Int) < 32) = false := by decide
   have hcells : Hid (rowCells 32 (u8s fun j => if j < 32 then byn n (31 - j) else 0) = (bys n 0).map u8v) := by
    show _ = _
    unfold rowCells bys
    rw [List.map_map]
    refine List.map_congr_left fun j hj => ?_
    have hj2 : j < 32 := List.mem_range.1 hj
    simp only [u8s, if_pos hj2, Function.comp]
    unfold u8v
    rw [ofNat_byn]
   go_upto_region 8 with fail
   refine wp_region_lit ?_
   refine wpList_plain rfl fun K hK => ?_
   refine st_loadA 3 23 (w.heap.size + 1 + 1) (fun w => by kernel_rfl) (fun w => by kernel_rfl) rfl hra (hK _ _ ?_)
   rw [hcells.out]
   refine wpList_plain rfl fun K2 hK2 => ?_
   refine st_storeA (cs := (bys n 0).map u8v) 2 23 (w.heap.size + 1) (fun w => by kernel_rfl) (by simp [bys]) (u8v_one _) rfl rfl hrz (hK2 _ _ ?_)
   refine wpList_nil ?_
   have hrow : (wr.setRow (w.heap.size + 1) ((bys n 0).map u8v).toArray).heap[w.heap.size + 1]? = some (.cells ((bys n 0).map u8v).toArray 298 (0, 0)) := by
    obtain ⟨c, hb, _⟩ := hrz
    exact setRow_heap wr _ _ _ _ _ hb
   have HB : Hid (Below w.heap.size w (wr.setRow (w.heap.size + 1) ((bys n 0).map u8v).toArray)) := below_setRow hbel (by omega) _
   generalize wr.setRow (w.heap.size + 1) ((bys n 0).map u8v).toArray = W at *
   have HR : Hid ((loadCells ⟨w.heap.size + 1, 0, none⟩ 32).run Tryz.prog W = .ok ((bys n 0).map u8v).toArray W) := by
    have h := run_loadCells_list (P := Tryz.prog) W ⟨w.heap.size + 1, 0, none⟩ ((bys n 0).map u8v) (fun j v hj => by
     have e : (⟨w.heap.size + 1, 0, none⟩ : Addr).add j = ⟨w.heap.size + 1, j, none⟩ := by simp [Addr.add, eq_comm]
     rw [e]
     simp only [World.cell?, hrow]
     simpa using hj)
    rw [show ((bys n 0).map u8v).length = 32 by simp [bys]] at h
    exact h
   clear hrow hra hrz hrw hbel hcells
   go_wp2
   exact bodyPost_ret (v := arr32 n) (results_one Tryz.results283 rfl (fun w => by kernel_rfl) (fun w => by kernel_rfl) HR.out) rfl ⟨rfl, HB.out⟩
theorem run_index_arr {P : Program} {T e : TypeId} {n i : Nat} {A : Array Value} {v : Value} (hu : P.underlying T = some (.array n e)) (hS : ∀ w, (sizeOf e).run P w = .ok 1 w) (hA : ∀ w, (isAgg e).run P w = .ok false w) (hi : i < n) (ha : A[i]? = some v) (w : World) :
  (Instr.index T (.agg A) (.int .i64 (i : Int))).run P w = .ok v w := by
 have h2 : (i : Int) < (n : Int) := by omega
 simp [Instr.index, asIntOf, run_underlying hu, hS, hA, part, h2, ha]
 intro h
 omega
theorem und_a32 : Tryz.prog.underlying 298 = some (.array 32 5) := by kernel_rfl
theorem dropWhile_at : ∀ (l : List UInt8) (i : Nat), (∀ j (h : j < l.length), j < i → l[j] = 0) → (∀ h : i < l.length, l[i] ≠ 0) → (l.dropWhile (· == 0)).length = l.length - i
 | [], i, _, _ => by simp
 | b :: l, 0, h1, h2 => by
  have h := h2 (by simp)
  have e : (b == 0) = false := by simpa using h
  rw [List.dropWhile_cons, e]
  rfl
 | b :: l, i + 1, h1, h2 => by
  have h := h1 0 (by simp) (by omega)
  have e : (b == 0) = true := by simpa using h
  rw [List.dropWhile_cons, e, if_pos rfl, dropWhile_at l i (fun j hj hi => h1 (j + 1) (by simp; omega) (by omega)) (fun hi => h2 (by simp; omega)), List.length_cons]
  omega
theorem bys_at (n j : Nat) (h : j < (bys n 0).length) : (bys n 0)[j] = UInt8.ofNat (byn n (31 - j)) := by simp [bys]
theorem pl_at (n i : Nat) (h1 : ∀ j, j < i → byn n (31 - j) = 0) (h2 : i < 32 → byn n (31 - i) ≠ 0) : (pl n 0).length = 32 - i := by
 have hl : (bys n 0).length = 32 := by simp [bys]
 unfold pl
 rw [dropWhile_at (bys n 0) i, hl]
 ·intro j hj hi
  rw [bys_at, h1 j hi]
  rfl
 ·intro hi e
  rw [bys_at] at e
  have := congrArg UInt8.toNat e
  rw [ofNat_byn] at this
  exact h2 (by omega) this
theorem byteLength_any (n : Nat) (w : World) : Calls Tryz.prog 258 #[wv n] w fun e w' => e = .returned (.int .i64 ((pl n 0).length : Int)) ∧ Below w.heap.size w w' := by
 have HT := hid_of' (toBytes_any n)
 have hs := W1.start w n
 go_enter Tryz.func258, Tryz.ntmps258
 go_wp2_with fail
 refine (HT.out _).mono ?_
 rintro e w1 ⟨rfl, hb1⟩
 replace hs := hid_of' (hs.call hb1).be
 unfold arr32
 obtain ⟨A, hA⟩ : ∃ A, A = ((bys n 0).map u8v).toArray := ⟨_, rfl⟩
 rw [← hA]
 have hsz : A.size = 32 := by rw [hA]; simp [bys]
 have hat : Hid (∀ i, i < 32 → A[i]? = some (.int .u8 (byn n (31 - i) : Int))) := fun i hi => by
  rw [hA]
  simp only [List.getElem?_toArray, bys, List.map_map, List.getElem?_map, List.getElem?_range hi, Option.map_some, Function.comp, u8v, ofNat_byn, Nat.sub_zero]
 clear hA hb1 HT
 go_wp2
 go_loopw [7] (fun t7 wr => ∃ i : Nat, i ≤ 32 ∧ t7 = .int .i64 i ∧ Hid (∀ j, j < i → byn n (31 - j) = 0) ∧ Hid (wr = w1))
   (fun t7 _ => 32 - (intOf t7).toNat)
 case atStart => exact ⟨0, by omega, rfl, fun j hj => by omega, rfl⟩
 case round =>
  obtain ⟨i, hi, rfl, HZ, HW⟩ := hrel
  obtain rfl := HW.out
  by_cases hlt : i < 32
  ·have d : decide ((i : Int) < 32) = true := decide_eq_true (by omega)
   have ha := hat.out i hlt
   by_cases hz : byn n (31 - i) = 0
   ·rw [hz] at ha
    have HN : Hid (∀ j, j < i + 1 → byn n (31 - j) = 0) := fun j hj => by
     by_cases e : j = i
     ·rw [e]; exact hz
     ·exact HZ.out j (by omega)
    have hix := run_index_arr und_a32 (fun w => by kernel_rfl) (fun w => by kernel_rfl) hlt ha
    clear hz HZ HW
    go_wp2
    refine ⟨⟨i + 1, by omega, by go_num, HN, by first | exact rfl | exact trivial⟩, by simp [intOf]; omega⟩
   ·have d2 : ((byn n (31 - i) : Int) != 0) = true := by simp; exact hz
    have HR := hid_of' (pl_at n i HZ.out (fun _ => hz))
    have hix := run_index_arr und_a32 (fun w => by kernel_rfl) (fun w => by kernel_rfl) hlt ha
    clear hz HZ HW
    go_wp2
    go_ret
    refine ⟨?_, hs.out⟩
    rw [HR.out]
    exact congrArg (fun z => Ending.returned (Value.int .i64 z)) (by omega)
  ·obtain rfl : i = 32 := by omega
   have d : decide (((32 : Nat) : Int) < 32) = false := by decide
   have HR := hid_of' (pl_at n 32 HZ.out (fun h => absurd h (by omega)))
   clear HZ HW
   go_wp2
   go_ret
   exact ⟨by rw [HR.out]; rfl, hs.out⟩
end
section
open Go.RowKit
def named (s : ByteArray) : Option Nat := ((lk tabRec (bl s)).orElse fun _ => lk tabCmp (bl s)).orElse fun _ => (lk tabSur (bl s)).orElse fun _ => (lk tabKee (bl s)).orElse fun _ => inRow s
set_option maxRecDepth 100000 in
set_option maxHeartbeats 2000000 in
theorem named_any (s : ByteArray) (hs : s.size ≤ 2000) (w : World) : Calls Tryz.prog 143 #[.string s] w fun e w' => e = .returned (pr (named s)) ∧ w' = w := by
 obtain ⟨o1, H1⟩ : ∃ o, Hid (o = (lk tabRec (bl s)).orElse fun _ => lk tabCmp (bl s)) := ⟨_, rfl⟩
 obtain ⟨o2, H2⟩ : ∃ o, Hid (o = lk tabSur (bl s)) := ⟨_, rfl⟩
 obtain ⟨o3, H3⟩ : ∃ o, Hid (o = lk tabKee (bl s)) := ⟨_, rfl⟩
 obtain ⟨o4, H4⟩ : ∃ o, Hid (o = inRow s) := ⟨_, rfl⟩
 have HN : Hid (named s = o1.orElse fun _ => o2.orElse fun _ => o3.orElse fun _ => o4) := by show _ = _; rw [H1.out, H2.out, H3.out, H4.out]; rfl
 have C1 : Hid (∀ w, Calls Tryz.prog 196 #[.string s] w fun e w' => e = .returned (pr o1) ∧ w' = w) := fun w => by rw [H1.out]; exact Rec_any s hs w
 have C2 : Hid (∀ w, Calls Tryz.prog 197 #[.string s] w fun e w' => e = .returned (pr o2) ∧ w' = w) := fun w => by rw [H2.out]; exact Sur_any s hs w
 have C3 : Hid (∀ w, Calls Tryz.prog 198 #[.string s] w fun e w' => e = .returned (pr o3) ∧ w' = w) := fun w => by rw [H3.out]; exact Kee_any s hs w
 have C4 : Hid (∀ w, Calls Tryz.prog 199 #[.string s] w fun e w' => e = .returned (pr o4) ∧ w' = w) := fun w => by rw [H4.out]; exact inRow_any s hs w
 clear H1 H2 H3 H4
 go_enter Tryz.func143, Tryz.ntmps143
 go_wp2_with fail
 refine (C1.out _).mono ?_
 rintro e w' ⟨rfl, rfl⟩
 cases o1 with
 | some v =>
  unfold pr
  simp only [Option.getD_some, Option.isSome_some]
  go_wp2
  go_ret2
  exact ⟨by rw [HN.out]; rfl, rfl⟩
 | none =>
  unfold pr
  simp only [Option.getD_none, Option.isSome_none]
  go_wp2_with fail
  refine (C2.out _).mono ?_
  rintro e w' ⟨rfl, rfl⟩
  cases o2 with
  | some v =>
   unfold pr
   simp only [Option.getD_some, Option.isSome_some]
   go_wp2
   go_ret2
   exact ⟨by rw [HN.out]; rfl, rfl⟩
  | none =>
   unfold pr
   simp only [Option.getD_none, Option.isSome_none]
   go_wp2_with fail
   refine (C3.out _).mono ?_
   rintro e w' ⟨rfl, rfl⟩
   cases o3 with
   | some v =>
    unfold pr
    simp only [Option.getD_some, Option.isSome_some]
    go_wp2
    go_ret2
    exact ⟨by rw [HN.out]; rfl, rfl⟩
   | none =>
    unfold pr
    simp only [Option.getD_none, Option.isSome_none]
    go_wp2_with fail
    refine (C4.out _).mono ?_
    rintro e w' ⟨rfl, rfl⟩
    unfold pr
    go_wp2
    go_ret2
    exact ⟨by rw [HN.out]; rfl, rfl⟩
end
section
open Go.RowKit
theorem p11 {i : Nat} (h : i < 11) : i = 0 ∨ i = 1 ∨ i = 2 ∨ i = 3 ∨ i = 4 ∨ i = 5 ∨ i = 6 ∨ i = 7 ∨ i = 8 ∨ i = 9 ∨ i = 10 := by omega
theorem len11 {vs : List Value} (h : vs.length = 11) : ∃ v0 v1 v2 v3 v4 v5 v6 v7 v8 v9 v10 : Value, vs = [v0, v1, v2, v3, v4, v5, v6, v7, v8, v9, v10] := by
 match vs, h with
 | [v0, v1, v2, v3, v4, v5, v6, v7, v8, v9, v10], _ => exact ⟨v0, v1, v2, v3, v4, v5, v6, v7, v8, v9, v10, rfl⟩
section
set_option maxRecDepth 100000
variable {s : Act} {x : World} {pos : String} {af : Array Edge} {g : Option (Nat × Bool)} {K : Act → World → Prop} {Q : Exit → Act → World → Prop}
theorem wrap_s (z : Int) (h0 : 0 ≤ z) (h1 : z ≤ 20000) : IntKind.i64.wrap z = z := by
 rw [IntKind.wrap_i64]
 omega
theorem st_rem10 (t d k : Nat) (he : s.tmps.getD t undef = .int .i64 (k : Int)) (hK : K (s.put (some d) (.int .i64 ((k % 10 : Nat) : Int))) x) {ty : TypeId} :
  Oper.wp Tryz.prog ⟨some d, .binOp .rem 3 (.tmp t) (.const (.int .i64 10)) 3, ty, pos, af, g⟩ s x K Q := by
 have he2 : s.eval (.tmp t) = .int .i64 (k : Int) := he
 rw [Int.natCast_emod] at hK
 go_simp
 exact hK
theorem st_add48 (t d k : Nat) (hk : k < 200) (he : s.tmps.getD t undef = .int .i64 (k : Int)) (hK : K (s.put (some d) (.int .i64 (48 + (k : Int)))) x) {ty : TypeId} :
  Oper.wp Tryz.prog ⟨some d, .binOp .add 3 (.const (.int .i64 48)) (.tmp t) 3, ty, pos, af, g⟩ s x K Q := by
 have he2 : s.eval (.tmp t) = .int .i64 (k : Int) := he
 have hw := wrap_s (48 + (k : Int)) (by omega) (by omega)
 go_simp
 exact hK
theorem st_conv8 (t d k : Nat) (hk : k < 200) (he : s.tmps.getD t undef = .int .i64 (48 + (k : Int))) (hK : K (s.put (some d) (.int .u8 (48 + (k : Int)))) x) {ty : TypeId} :
  Oper.wp Tryz.prog ⟨some d, .convert 3 5 (.tmp t), ty, pos, af, g⟩ s x K Q := by
 have he2 : s.eval (.tmp t) = .int .i64 (48 + (k : Int)) := he
 have hw : IntKind.u8.wrap (48 + (k : Int)) = 48 + (k : Int) := by simp [IntKind.wrap, IntKind.bits, IntKind.signed]; omega
 go_simp
 exact hK
theorem st_build1 (t d : Nat) (c : Int) (he : s.tmps.getD t undef = .int .u8 c) (hK : K (s.put (some d) (.slice (some ⟨x.heap.size, 0, none⟩) 1 1)) (x.alloc (.cells #[.int .u8 c] 5))) {ty : TypeId} :
  Oper.wp Tryz.prog ⟨some d, .buildSlice 26 1 #[(0, .tmp t)], ty, pos, af, g⟩ s x K Q := by
 have he2 : s.eval (.tmp t) = .int .u8 c := he
 have he3 : s.tmps[t]?.getD undef = .int .u8 c := by rw [← Array.getD_eq_getD_getElem?]; exact he
 go_simp
 exact hK
def One (c : Int) (v : Value) (x : World) : Prop := ∃ b, v = .slice (some ⟨b, 0, none⟩) 1 1 ∧ x.rowIs b 5 1 (fun _ => .int .u8 c)
theorem One.below {c : Int} {v : Value} {x x' : World} (h : One c v x) (hb : Below x.heap.size x x') : One c v x' := by
 obtain ⟨b, h1, h2⟩ := h
 exact ⟨b, h1, row_below h2 hb⟩
theorem st_conv1 (t d : Nat) (c : Int) (he : One c (s.tmps.getD t undef) x) (hK : K (s.put (some d) (.string ⟨#[UInt8.ofNat c.toNat]⟩)) x) {ty : TypeId} :
  Oper.wp Tryz.prog ⟨some d, .convert 26 9 (.tmp t), ty, pos, af, g⟩ s x K Q := by
 obtain ⟨b, he, hr⟩ := he
 have he2 : s.eval (.tmp t) = .slice (some ⟨b, 0, none⟩) 1 1 := he
 have h := run_convert_bytes_arg (P := Tryz.prog) x 26 5 (by kernel_rfl) (by kernel_rfl) b 0 1 1 [c] rfl (fun i hi => by
  obtain rfl : i = 0 := by omega
  exact hr.cell (by omega)) 9 (by kernel_rfl)
 have h2 : (convert 26 9 (.slice (some ⟨b, 0, none⟩) 1 1)).run Tryz.prog x = .ok (.string ⟨#[UInt8.ofNat c.toNat]⟩) x := h
 clear h
 go_simp
 exact hK
theorem st_cat (t u d : Nat) (a b : ByteArray) (ha : a.size ≤ 2000) (hb : b.size ≤ 2000) (he : s.tmps.getD t undef = .string a) (hu : s.tmps.getD u undef = .string b) (hK : K (s.put (some d) (.string (a ++ b))) x) {ty : TypeId} :
  Oper.wp Tryz.prog ⟨some d, .binOp .add 9 (.tmp t) (.tmp u) 9, ty, pos, af, g⟩ s x K Q := by
 have he2 : s.eval (.tmp t) = .string a := he
 have hu2 : s.eval (.tmp u) = .string b := hu
 go_simp
 rw [if_neg (by omega)]
 exact hK
end
end
section
open Go.RowKit
def nsA : List ByteArray := [⟨#[83, 84, 79, 80]⟩, ⟨#[65, 68, 68]⟩, ⟨#[77, 85, 76]⟩, ⟨#[83, 85, 66]⟩, ⟨#[68, 73, 86]⟩, ⟨#[83, 68, 73, 86]⟩, ⟨#[77, 79, 68]⟩, ⟨#[83, 77, 79, 68]⟩, ⟨#[65, 68, 68, 77, 79, 68]⟩, ⟨#[77, 85, 76, 77, 79, 68]⟩, ⟨#[69, 88, 80]⟩, ⟨#[83, 73, 71, 78, 69, 88, 84, 69, 78, 68]⟩]
def nsB : List ByteArray := [⟨#[76, 84]⟩, ⟨#[71, 84]⟩, ⟨#[83, 76, 84]⟩, ⟨#[83, 71, 84]⟩, ⟨#[69, 81]⟩, ⟨#[73, 83, 90, 69, 82, 79]⟩, ⟨#[65, 78, 68]⟩, ⟨#[79, 82]⟩, ⟨#[88, 79, 82]⟩, ⟨#[78, 79, 84]⟩, ⟨#[66, 89, 84, 69]⟩, ⟨#[83, 72, 76]⟩, ⟨#[83, 72, 82]⟩, ⟨#[83, 65, 82]⟩]
def nsC : List ByteArray := [⟨#[65, 68, 68, 82, 69, 83, 83]⟩, ⟨#[66, 65, 76, 65, 78, 67, 69]⟩, ⟨#[]⟩, ⟨#[67, 65, 76, 76, 69, 82]⟩, ⟨#[67, 65, 76, 76, 86, 65, 76, 85, 69]⟩, ⟨#[67, 65, 76, 76, 68, 65, 84, 65, 76, 79, 65, 68]⟩, ⟨#[67, 65, 76, 76, 68, 65, 84, 65, 83, 73, 90, 69]⟩, ⟨#[67, 65, 76, 76, 68, 65, 84, 65, 67, 79, 80, 89]⟩, ⟨#[67, 79, 68, 69, 83, 73, 90, 69]⟩, ⟨#[67, 79, 68, 69, 67, 79, 80, 89]⟩, ⟨#[]⟩, ⟨#[]⟩, ⟨#[]⟩, ⟨#[82, 69, 84, 85, 82, 78, 68, 65, 84, 65, 83, 73, 90, 69]⟩, ⟨#[82, 69, 84, 85, 82, 78, 68, 65, 84, 65, 67, 79, 80, 89]⟩]
def nsD : List ByteArray := [⟨#[80, 79, 80]⟩, ⟨#[77, 76, 79, 65, 68]⟩, ⟨#[77, 83, 84, 79, 82, 69]⟩, ⟨#[77, 83, 84, 79, 82, 69, 56]⟩, ⟨#[83, 76, 79, 65, 68]⟩, ⟨#[83, 83, 84, 79, 82, 69]⟩, ⟨#[74, 85, 77, 80]⟩, ⟨#[74, 85, 77, 80, 73]⟩, ⟨#[80, 67]⟩, ⟨#[77, 83, 73, 90, 69]⟩, ⟨#[71, 65, 83]⟩, ⟨#[74, 85, 77, 80, 68, 69, 83, 84]⟩, ⟨#[84, 76, 79, 65, 68]⟩, ⟨#[84, 83, 84, 79, 82, 69]⟩, ⟨#[77, 67, 79, 80, 89]⟩]
def tabZ : List (List UInt8 × Nat) := [([67, 65, 76, 76], 241), ([82, 69, 84, 85, 82, 78], 243), ([68, 69, 76, 69, 71, 65, 84, 69, 67, 65, 76, 76], 244), ([83, 84, 65, 84, 73, 67, 67, 65, 76, 76], 250), ([82, 69, 86, 69, 82, 84], 253)]
def fnd (ns : List ByteArray) (l : List UInt8) : Nat → Nat → Option Nat
 | 0, _ => none
 | f + 1, i => if bl (ns.getD i ⟨#[]⟩) = l then some i else fnd ns l f (i + 1)
def rowR (l : List UInt8) : Nat → Nat → Option Nat
 | 0, _ => none
 | f + 1, i => if l = bl ((⟨#[68, 85, 80]⟩ : ByteArray) ++ dcs i) then some (127 + i) else if l = bl ((⟨#[83, 87, 65, 80]⟩ : ByteArray) ++ dcs i) then some (143 + i) else if i ≤ 5 ∧ l = bl ((⟨#[76, 79, 71]⟩ : ByteArray) ++ dcs (i - 1)) then some (159 + i) else rowR l f (i + 1)
def rnm (s : ByteArray) : Int := match fnd nsA (bl s) 12 0 with
 | some i => (0 : Int) + i
 | none => match fnd nsB (bl s) 14 0 with
  | some i => (16 : Int) + i
  | none => match fnd nsC (bl s) 15 0 with
   | some i => (48 : Int) + i
   | none => match fnd nsD (bl s) 15 0 with
    | some i => (80 : Int) + i
    | none => match rowR (bl s) 16 1 with
     | some v => (v : Int)
     | none => match lk tabZ (bl s) with
      | some v => (v : Int)
      | none => -1
end
section
open Go.RowKit
def namedL (l : List UInt8) : Option Nat := ((lk tabRec l).orElse fun _ => lk tabCmp l).orElse fun _ => (lk tabSur l).orElse fun _ => (lk tabKee l).orElse fun _ => (rowA l 16 0).orElse fun _ => rowB l 5 0
def rnmL (l : List UInt8) : Int := match fnd nsA l 12 0 with
 | some i => (0 : Int) + i
 | none => match fnd nsB l 14 0 with
  | some i => (16 : Int) + i
  | none => match fnd nsC l 15 0 with
   | some i => (48 : Int) + i
   | none => match fnd nsD l 15 0 with
    | some i => (80 : Int) + i
    | none => match rowR l 16 1 with
     | some v => (v : Int)
     | none => match lk tabZ l with
      | some v => (v : Int)
      | none => -1
theorem named_l (s : ByteArray) : named s = namedL (bl s) := rfl
def orm (o : Option Nat) : Int := match o with
 | some v => (v : Int)
 | none => -1
def rowKeys : List (List UInt8) := ((List.range 16).map fun i => bl (dup i)) ++ (((List.range 16).map fun i => bl (swp i)) ++ (List.range 5).map fun i => bl (lgs i))
def keys : List (List UInt8) := (tabRec.map Prod.fst) ++ ((tabCmp.map Prod.fst) ++ ((tabSur.map Prod.fst) ++ ((tabKee.map Prod.fst) ++ rowKeys)))
theorem lk_out : ∀ (tab : List (List UInt8 × Nat)) (l : List UInt8), (∀ p ∈ tab, p.1 ≠ l) → lk tab l = none
 | [], _, _ => rfl
 | (a, v) :: r, l, h => by
  rw [lk, if_neg (fun e => h (a, v) List.mem_cons_self e.symm)]
  exact lk_out r l fun p hp => h p (List.mem_cons_of_mem _ hp)
theorem fnd_out (ns : List ByteArray) (l : List UInt8) : ∀ f i, (∀ j, i ≤ j → j < i + f → bl (ns.getD j ⟨#[]⟩) ≠ l) → fnd ns l f i = none
 | 0, _, _ => rfl
 | f + 1, i, h => by
  rw [fnd, if_neg (h i (by omega) (by omega))]
  exact fnd_out ns l f (i + 1) fun j h1 h2 => h j (by omega) (by omega)
theorem rowA_out (l : List UInt8) : ∀ f i, (∀ j, i ≤ j → j < i + f → l ≠ bl (dup j) ∧ l ≠ bl (swp j)) → rowA l f i = none
 | 0, _, _ => rfl
 | f + 1, i, h => by
  have h0 := h i (by omega) (by omega)
  rw [rowA, if_neg h0.1, if_neg h0.2]
  exact rowA_out l f (i + 1) fun j h1 h2 => h j (by omega) (by omega)
theorem rowB_out (l : List UInt8) : ∀ f i, (∀ j, i ≤ j → j < i + f → l ≠ bl (lgs j)) → rowB l f i = none
 | 0, _, _ => rfl
 | f + 1, i, h => by
  rw [rowB, if_neg (h i (by omega) (by omega))]
  exact rowB_out l f (i + 1) fun j h1 h2 => h j (by omega) (by omega)
theorem sub_keys (tab : List (List UInt8 × Nat)) (h : (tab.all fun p => keys.contains p.1) = true) (l : List UInt8) (hl : l ∉ keys) : lk tab l = none :=
 lk_out tab l fun p hp e => hl (by
  have := List.all_eq_true.1 h p hp
  rw [e] at this
  simpa using this)
theorem dup_key (j : Nat) (h : j < 16) : bl (dup j) ∈ keys := by
 unfold keys rowKeys
 simp only [List.mem_append, List.mem_map, List.mem_range]
 exact Or.inr (Or.inr (Or.inr (Or.inr (Or.inl ⟨j, h, rfl⟩))))
theorem swp_key (j : Nat) (h : j < 16) : bl (swp j) ∈ keys := by
 unfold keys rowKeys
 simp only [List.mem_append, List.mem_map, List.mem_range]
 exact Or.inr (Or.inr (Or.inr (Or.inr (Or.inr (Or.inl ⟨j, h, rfl⟩)))))
theorem lgs_key (j : Nat) (h : j < 5) : bl (lgs j) ∈ keys := by
 unfold keys rowKeys
 simp only [List.mem_append, List.mem_map, List.mem_range]
 exact Or.inr (Or.inr (Or.inr (Or.inr (Or.inr (Or.inr ⟨j, h, rfl⟩)))))
end
section
open Go.RowKit
theorem wid_same (z i z' i' b0 b1 b2 b3 c1 c2 c3 n : Nat) (h0 : b0 < 256) (h1 : b1 < 256) (h2 : b2 < 256) (h3 : b3 < 256) (k1 : c1 < 256) (k2 : c2 < 256) (k3 : c3 < 256)
  (h : wid z i b0 b1 b2 b3 = n) (hn : n ≠ 0) (hz : i' + n ≤ z') (e1 : 2 ≤ n → c1 = b1) (e2 : 3 ≤ n → c2 = b2) (e3 : 4 ≤ n → c3 = b3) : wid z' i' b0 c1 c2 c3 = n := by
 by_cases hA : b0 < 128
 ·rw [wid_a _ _ _ _ _ _ hA] at h ⊢
  exact h
 ·by_cases hZ : b0 < 194 ∨ 245 ≤ b0
  ·rw [wid_z _ _ _ _ _ _ (by omega) h0 hZ h1 h2 h3] at h
   exact absurd h.symm hn
  ·have t2 : b0 < 224 → wid z' i' b0 c1 c2 c3 = n := fun hb => by
    rw [wid_2 _ _ _ _ _ _ (by omega) hb h1] at h
    rw [wid_2 _ _ _ _ _ _ (by omega) hb k1]
    split at h
    ·subst h
     rw [if_pos]
     have := e1 (by omega)
     omega
    ·exact absurd h.symm hn
   have t3 : ∀ lo hi : Nat, ((b0 = 224 ∧ lo = 160 ∧ hi = 191) ∨ (225 ≤ b0 ∧ b0 < 237 ∧ lo = 128 ∧ hi = 191) ∨ (b0 = 237 ∧ lo = 128 ∧ hi = 159) ∨ (238 ≤ b0 ∧ b0 < 240 ∧ lo = 128 ∧ hi = 191)) → wid z' i' b0 c1 c2 c3 = n := fun lo hi hc => by
    rw [wid_3 _ _ _ _ _ _ lo hi h1 h2 hc] at h
    rw [wid_3 _ _ _ _ _ _ lo hi k1 k2 hc]
    split at h
    ·subst h
     rw [if_pos]
     have := e1 (by omega)
     have := e2 (by omega)
     omega
    ·exact absurd h.symm hn
   have t4 : ∀ lo hi : Nat, ((b0 = 240 ∧ lo = 144 ∧ hi = 191) ∨ (241 ≤ b0 ∧ b0 < 244 ∧ lo = 128 ∧ hi = 191) ∨ (b0 = 244 ∧ lo = 128 ∧ hi = 143)) → wid z' i' b0 c1 c2 c3 = n := fun lo hi hc => by
    rw [wid_4 _ _ _ _ _ _ lo hi h1 h2 h3 hc] at h
    rw [wid_4 _ _ _ _ _ _ lo hi k1 k2 k3 hc]
    split at h
    ·subst h
     rw [if_pos]
     have := e1 (by omega)
     have := e2 (by omega)
     have := e3 (by omega)
     omega
    ·exact absurd h.symm hn
   rcases (by omega : b0 < 224 ∨ b0 = 224 ∨ (225 ≤ b0 ∧ b0 < 237) ∨ b0 = 237 ∨ (238 ≤ b0 ∧ b0 < 240) ∨ b0 = 240 ∨ (241 ≤ b0 ∧ b0 < 244) ∨ b0 = 244) with h | h | h | h | h | h | h | h
   ·exact t2 h
   ·exact t3 160 191 (by omega)
   ·exact t3 128 191 (by omega)
   ·exact t3 128 159 (by omega)
   ·exact t3 128 191 (by omega)
   ·exact t4 144 191 (by omega)
   ·exact t4 128 191 (by omega)
   ·exact t4 128 143 (by omega)
theorem wid_last (z i b0 b1 b2 b3 n : Nat) (h0 : b0 < 256) (h1 : b1 < 256) (h2 : b2 < 256) (h3 : b3 < 256) (h : wid z i b0 b1 b2 b3 = n) (hn : n ≠ 0) : (n = 1 ∧ b0 < 128) ∨ (n = 2 ∧ 128 ≤ b0 ∧ 128 ≤ b1) ∨ (n = 3 ∧ 128 ≤ b0 ∧ 128 ≤ b2) ∨ (n = 4 ∧ 128 ≤ b0 ∧ 128 ≤ b3) := by
 by_cases hA : b0 < 128
 ·rw [wid_a _ _ _ _ _ _ hA] at h
  omega
 ·by_cases hZ : b0 < 194 ∨ 245 ≤ b0
  ·rw [wid_z _ _ _ _ _ _ (by omega) h0 hZ h1 h2 h3] at h
   exact absurd h.symm hn
  ·have t2 : b0 < 224 → (n = 2 ∧ 128 ≤ b0 ∧ 128 ≤ b1) := fun hb => by
    rw [wid_2 _ _ _ _ _ _ (by omega) hb h1] at h
    split at h
    ·omega
    ·exact absurd h.symm hn
   have t3 : ∀ lo hi : Nat, ((b0 = 224 ∧ lo = 160 ∧ hi = 191) ∨ (225 ≤ b0 ∧ b0 < 237 ∧ lo = 128 ∧ hi = 191) ∨ (b0 = 237 ∧ lo = 128 ∧ hi = 159) ∨ (238 ≤ b0 ∧ b0 < 240 ∧ lo = 128 ∧ hi = 191)) → (n = 3 ∧ 128 ≤ b0 ∧ 128 ≤ b2) := fun lo hi hc => by
    rw [wid_3 _ _ _ _ _ _ lo hi h1 h2 hc] at h
    split at h
    ·omega
    ·exact absurd h.symm hn
   have t4 : ∀ lo hi : Nat, ((b0 = 240 ∧ lo = 144 ∧ hi = 191) ∨ (241 ≤ b0 ∧ b0 < 244 ∧ lo = 128 ∧ hi = 191) ∨ (b0 = 244 ∧ lo = 128 ∧ hi = 143)) → (n = 4 ∧ 128 ≤ b0 ∧ 128 ≤ b3) := fun lo hi hc => by
    rw [wid_4 _ _ _ _ _ _ lo hi h1 h2 h3 hc] at h
    split at h
    ·omega
    ·exact absurd h.symm hn
   rcases (by omega : b0 < 224 ∨ b0 = 224 ∨ (225 ≤ b0 ∧ b0 < 237) ∨ b0 = 237 ∨ (238 ≤ b0 ∧ b0 < 240) ∨ b0 = 240 ∨ (241 ≤ b0 ∧ b0 < 244) ∨ b0 = 244) with h | h | h | h | h | h | h | h
   ·exact Or.inr (Or.inl (t2 h))
   ·exact Or.inr (Or.inr (Or.inl (t3 160 191 (by omega))))
   ·exact Or.inr (Or.inr (Or.inl (t3 128 191 (by omega))))
   ·exact Or.inr (Or.inr (Or.inl (t3 128 159 (by omega))))
   ·exact Or.inr (Or.inr (Or.inl (t3 128 191 (by omega))))
   ·exact Or.inr (Or.inr (Or.inr (t4 144 191 (by omega))))
   ·exact Or.inr (Or.inr (Or.inr (t4 128 191 (by omega))))
   ·exact Or.inr (Or.inr (Or.inr (t4 128 143 (by omega))))
theorem byt_sub (s : ByteArray) (b e p : Nat) (h : p < e - b) : byt (s.extract b e) p = byt s (b + p) := by
 rw [byt_bl, byt_bl, bl_sub, List.getD_eq_getElem?_getD, List.getD_eq_getElem?_getD, List.getElem?_take, if_pos h, List.getElem?_drop]
theorem nx_sub (s : ByteArray) (b e p : Nat) (he : e ≤ s.size) (h0 : nx s (b + p) ≠ 0) (h : b + p + nx s (b + p) ≤ e) : nx (s.extract b e) p = nx s (b + p) := by
 rw [nx_wid, nx_wid]
 rw [nx_wid] at h0 h
 have hs : (s.extract b e).size = e - b := by rw [ByteArray.size_extract]; omega
 have hl := wid_last _ _ _ _ _ _ _ (byt_lt _ _) (byt_lt _ _) (byt_lt _ _) (byt_lt _ _) (Eq.refl (wid s.size (b + p) (byt s (b + p)) (byt s (b + p + 1)) (byt s (b + p + 2)) (byt s (b + p + 3)))) h0
 have hb0 : byt (s.extract b e) p = byt s (b + p) := byt_sub s b e p (by omega)
 rw [hb0, hs]
 refine wid_same _ _ _ _ _ _ _ _ _ _ _ _ (byt_lt _ _) (byt_lt _ _) (byt_lt _ _) (byt_lt _ _) (byt_lt _ _) (byt_lt _ _) (byt_lt _ _) rfl h0 (by omega) (fun k => ?_) (fun k => ?_) (fun k => ?_)
 ·rw [byt_sub s b e (p + 1) (by omega)]; rfl
 ·rw [byt_sub s b e (p + 2) (by omega)]; rfl
 ·rw [byt_sub s b e (p + 3) (by omega)]; rfl
inductive Run (s : ByteArray) (b : Nat) : Nat → Prop
 | here : Run s b b
 | step {e : Nat} : Run s b e → e < s.size → nx s e ≠ 0 → Run s b (e + nx s e)
theorem Run.le {s : ByteArray} {b e : Nat} (h : Run s b e) : b ≤ e := by
 induction h with
 | here => exact Nat.le_refl _
 | step _ _ _ ih => omega
theorem Run.sub {s : ByteArray} {b e c : Nat} (h : Run s b e) (hc : c ≤ s.size) (he : e ≤ c) : Run (s.extract b c) 0 (e - b) := by
 induction h with
 | here => rw [Nat.sub_self]; exact .here
 | @step e hr hp h0 ih =>
  have hb := hr.le
  have hs : (s.extract b c).size = c - b := by rw [ByteArray.size_extract]; omega
  have e1 : b + (e - b) = e := by omega
  have hn := nx_sub s b c (e - b) hc (by rw [e1]; exact h0) (by rw [e1]; exact he)
  rw [e1] at hn
  have h2 := Run.step (ih (by omega)) (by omega) (by rw [hn]; exact h0)
  rw [hn] at h2
  rw [show e + nx s e - b = e - b + nx s e by omega]
  exact h2
theorem Run.cnt {s : ByteArray} {e : Nat} (h : Run s 0 e) (he : e ≤ s.size) : ∃ f k : Nat, s.size ≤ e + f ∧ cntF s f e k = cin.cnt s := by
 induction h with
 | here => exact ⟨s.size, 0, by omega, rfl⟩
 | @step e hr hp h0 ih =>
  obtain ⟨f, k, h1, h2⟩ := ih (by omega)
  exact ⟨f - 1, k + 1, by omega, cnt_step hp h0 (by omega) h2⟩
def Whole (s : ByteArray) : Prop := Run s 0 s.size
theorem Whole.cnt {s : ByteArray} (h : Whole s) : (cin.cnt s).2 = true := by
 obtain ⟨f, k, _, h2⟩ := Run.cnt h (Nat.le_refl _)
 rw [← h2, cntF_end s f s.size k (by omega)]
theorem Run.whole {s : ByteArray} {b e : Nat} (h : Run s b e) (he : e ≤ s.size) : Whole (s.extract b e) := by
 have h2 := h.sub he (Nat.le_refl _)
 unfold Whole
 rw [ByteArray.size_extract, Nat.min_eq_left he]
 exact h2
theorem Run.behind {s : ByteArray} {b e : Nat} (h : Run s b e) : e = b ∨ Run s (b + nx s b) e := by
 induction h with
 | here => exact Or.inl rfl
 | @step e hr hp h0 ih =>
  rcases ih with rfl | ih
  ·exact Or.inr .here
  ·exact Or.inr (ih.step hp h0)
theorem Run.last {s : ByteArray} {b e : Nat} (h : Run s b e) : e = b ∨ ∃ c, Run s b c ∧ c < s.size ∧ nx s c ≠ 0 ∧ e = c + nx s c := by
 cases h with
 | here => exact Or.inl rfl
 | step hr hp h0 => exact Or.inr ⟨_, hr, hp, h0, rfl⟩
theorem Whole.butLast {s : ByteArray} (h : Whole s) (hs : 0 < s.size) (hc : byt s (s.size - 1) < 128) : Whole (s.extract 0 (s.size - 1)) := by
 rcases Run.last h with h0 | ⟨c, hr, hp, h0, he⟩
 ·omega
 ·have hl := wid_last _ _ _ _ _ _ _ (byt_lt _ _) (byt_lt _ _) (byt_lt _ _) (byt_lt _ _) (nx_wid s c).symm h0
  have h1 : nx s c = 1 := by
   rcases hl with ⟨h, _⟩ | ⟨h, _, h2⟩ | ⟨h, _, h2⟩ | ⟨h, _, h2⟩
   ·exact h
   ·rw [show c + 1 = s.size - 1 by omega] at h2; omega
   ·rw [show c + 2 = s.size - 1 by omega] at h2; omega
   ·rw [show c + 3 = s.size - 1 by omega] at h2; omega
  obtain rfl : c = s.size - 1 := by omega
  exact hr.whole (by omega)
theorem nx_ascii (s : ByteArray) (p : Nat) (h : byt s p < 128) : nx s p = 1 := by rw [nx_wid, wid_a _ _ _ _ _ _ h]
theorem Whole.butFirst {s : ByteArray} (h : Whole s) (hs : 0 < s.size) (hc : byt s 0 < 128) : Whole (s.extract 1 s.size) := by
 rcases Run.behind h with h0 | h1
 ·omega
 ·rw [nx_ascii s 0 hc] at h1
  exact h1.whole (Nat.le_refl _)
theorem whole_of {s : ByteArray} : ∀ (f p k : Nat), Run s 0 p → p ≤ s.size → s.size ≤ p + f → (cntF s f p k).2 = true → Whole s
 | f, p, k, hr, hp, hf, h => by
  by_cases hlt : p < s.size
  ·obtain ⟨h0, h2⟩ := cntF_ok hlt (by omega) h
   have hle := nx_le s p hlt h0
   exact whole_of (f - 1) (p + nx s p) (k + 1) (hr.step hlt h0) hle (by omega) h2
  ·obtain rfl : p = s.size := by omega
   exact hr
termination_by f p => s.size - p
decreasing_by omega
theorem whole_cnt {s : ByteArray} (h : (cin.cnt s).2 = true) : Whole s := whole_of s.size 0 0 .here (by omega) (by omega) h
-- names of instructions
theorem named_out (l : List UInt8) (h : l ∉ keys) : namedL l = none := by
 have hd : ∀ j, j < 16 → l ≠ bl (dup j) := fun j hj e => h (e ▸ dup_key j hj)
 have hsw : ∀ j, j < 16 → l ≠ bl (swp j) := fun j hj e => h (e ▸ swp_key j hj)
 have hg : ∀ j, j < 5 → l ≠ bl (lgs j) := fun j hj e => h (e ▸ lgs_key j hj)
 unfold namedL
 rw [sub_keys tabRec (by kernel_rfl) l h, sub_keys tabCmp (by kernel_rfl) l h, sub_keys tabSur (by kernel_rfl) l h, sub_keys tabKee (by kernel_rfl) l h, rowA_out l 16 0 (fun j _ hj => ⟨hd j (by omega), hsw j (by omega)⟩), rowB_out l 5 0 (fun j _ hj => hg j (by omega))]
 rfl
def keyOk (l : List UInt8) : Bool := decide (65 ≤ (l.getD 0 0).toNat) && decide ((l.getD 0 0).toNat ≤ 90) && decide ((namedL l).getD 0 < 256)
theorem keys_ok : (keys.all keyOk) = true := by kernel_rfl
theorem named_ok {s : ByteArray} {v : Nat} (h : named s = some v) : 65 ≤ byt s 0 ∧ byt s 0 ≤ 90 ∧ v < 256 := by
 rw [named_l] at h
 have hk : bl s ∈ keys := by
  refine Decidable.byContradiction fun hn => ?_
  rw [named_out _ hn] at h
  cases h
 have h2 := List.all_eq_true.1 keys_ok _ hk
 unfold keyOk at h2
 simp only [Bool.and_eq_true, decide_eq_true_eq] at h2
 rw [h] at h2
 rw [byt_bl]
 exact ⟨h2.1.1, h2.1.2, h2.2⟩
-- an item
def col : ByteArray := ⟨#[58]⟩
def att : ByteArray := ⟨#[64]⟩
structure It where
 k : Nat
 nm : ByteArray
 cd : List UInt8
 fl : Nat
def itN (s : ByteArray) : It := match named s with
 | some v => ⟨0, ⟨#[]⟩, [UInt8.ofNat v], 0⟩
 | none => match nres (nt s) (nb s) with
  | none => ⟨0, ⟨#[]⟩, [], 2⟩
  | some (n, g) => if g then ⟨0, ⟨#[]⟩, [], 4⟩ else ⟨0, ⟨#[]⟩, pcode n, 0⟩
def isL (s : ByteArray) : Bool := sf s col && nm (cutS s col)
def isA (s : ByteArray) : Bool := pf s att && nm (cutP s att)
def itm (s : ByteArray) : It := if isL s then ⟨1, cutS s col, [91], 0⟩ else if isA s then ⟨2, cutP s att, [97, 0, 0], 0⟩ else itN s
theorem sf_col (s : ByteArray) : sf s col = (decide (1 ≤ s.size) && decide (byt s (s.size - 1) = 58)) := by
 unfold sf
 show (decide (1 ≤ s.size) && _) = _
 by_cases h : 1 ≤ s.size
 ·rw [decide_eq_true h, Bool.true_and, Bool.true_and, Go.ByteArray.toList_eq, Go.ByteArray.toList_eq]
  show (bl (s.extract (s.size - 1) s.size) == [58]) = _
  have hl : (bl s).length = s.size := rfl
  rw [bl_sub, byt_bl]
  have hd : (bl s).drop (s.size - 1) = [(bl s).getD (s.size - 1) 0] := by
   rw [List.drop_eq_getElem_cons (by omega), List.drop_of_length_le (by omega), List.getD_eq_getElem?_getD, List.getElem?_eq_getElem (by omega)]
   rfl
  rw [hd, show s.size - (s.size - 1) = 1 by omega, Bool.eq_iff_iff, beq_iff_eq, decide_eq_true_eq]
  generalize (bl s).getD (s.size - 1) 0 = c
  constructor
  ·intro e
   have e2 : c = 58 := by injection e
   rw [e2]; rfl
  ·intro e
   have e2 : c = 58 := UInt8.toNat_inj.1 e
   rw [e2]; rfl
 ·rw [decide_eq_false h, Bool.false_and, Bool.false_and]
theorem pf_att (s : ByteArray) (h : 0 < s.size) : pf s att = decide (byt s 0 = 64) := by
 obtain ⟨c, r, e, hc⟩ := byt0 h
 rw [pf_list, e, ← hc]
 show (([64] : List UInt8).isPrefixOf (c :: r)) = _
 rw [Bool.eq_iff_iff, decide_eq_true_eq]
 simp only [List.isPrefixOf, Bool.and_true, beq_iff_eq]
 constructor
 ·intro e; rw [← e]; rfl
 ·intro e; exact (UInt8.toNat_inj.1 e).symm
theorem cut_col {s : ByteArray} (h : sf s col = true) : cutS s col = s.extract 0 (s.size - 1) := by unfold cutS; rw [h]; rfl
theorem cut_att {s : ByteArray} (h : pf s att = true) : cutP s att = s.extract 1 s.size := by unfold cutP; rw [h]; rfl
theorem itN_some {s : ByteArray} {v : Nat} (h : named s = some v) : itN s = ⟨0, ⟨#[]⟩, [UInt8.ofNat v], 0⟩ := by unfold itN; rw [h]
theorem itN_none {s : ByteArray} (h : named s = none) : itN s = match nres (nt s) (nb s) with
  | none => ⟨0, ⟨#[]⟩, [], 2⟩
  | some (n, g) => if g then ⟨0, ⟨#[]⟩, [], 4⟩ else ⟨0, ⟨#[]⟩, pcode n, 0⟩ := by unfold itN; rw [h]
theorem pcode_len (n : Nat) : (pcode n).length ≤ 33 := by have := pl_len n 0; unfold pcode pcs; rw [List.length_cons]; omega
end
section
open Go.RowKit
def sepB (c : Nat) : Bool := decide (c = 32 ∨ c = 9 ∨ c = 10 ∨ c = 59)
def rmk (rm : Bool) (c : Nat) : Bool := decide (c = 59) || (rm && decide (c ≠ 10))
def fin (s : ByteArray) (p : Nat) (cur : Option (Nat × Nat)) : List (ByteArray × Nat) := match cur with
 | some (b, a) => [(s.extract b p, a)]
 | none => []
def splF (s : ByteArray) : Nat → Nat → Nat → Bool → Option (Nat × Nat) → List (ByteArray × Nat)
 | 0, p, _, _, cur => fin s p cur
 | f + 1, p, k, rm, cur => if p < s.size then
   (if (rm || sepB (byt s p)) then fin s p cur ++ splF s f (p + nx s p) (k + 1) (rmk rm (byt s p)) none
    else splF s f (p + nx s p) (k + 1) (rmk rm (byt s p)) (some (cur.getD (p, k))))
  else fin s p cur
def spl (s : ByteArray) : List (ByteArray × Nat) := splF s s.size 0 0 false none
theorem spl_end (s : ByteArray) (f p k : Nat) (rm : Bool) (cur : Option (Nat × Nat)) (h : ¬ p < s.size) : splF s f p k rm cur = fin s p cur := by
 cases f with
 | zero => rfl
 | succ f => rw [splF, if_neg h]
theorem spl_out {s : ByteArray} {f p k : Nat} {rm : Bool} {cur : Option (Nat × Nat)} {acc T : List (ByteArray × Nat)} (hp : p < s.size) (hf : 0 < f) (ho : (rm || sepB (byt s p)) = true) (h : acc ++ splF s f p k rm cur = T) :
  (acc ++ fin s p cur) ++ splF s (f - 1) (p + nx s p) (k + 1) (rmk rm (byt s p)) none = T := by
 obtain ⟨g, rfl⟩ : ∃ g, f = g + 1 := ⟨f - 1, by omega⟩
 rw [splF, if_pos hp, ho, if_pos rfl] at h
 rw [List.append_assoc]
 exact h
theorem spl_in {s : ByteArray} {f p k : Nat} {rm : Bool} {cur : Option (Nat × Nat)} {acc T : List (ByteArray × Nat)} (hp : p < s.size) (hf : 0 < f) (ho : (rm || sepB (byt s p)) = false) (h : acc ++ splF s f p k rm cur = T) :
  acc ++ splF s (f - 1) (p + nx s p) (k + 1) (rmk rm (byt s p)) (some (cur.getD (p, k))) = T := by
 obtain ⟨g, rfl⟩ : ∃ g, f = g + 1 := ⟨f - 1, by omega⟩
 rw [splF, if_pos hp, ho, if_neg (by decide)] at h
 exact h
theorem ext_size {s : ByteArray} {b p : Nat} (hp : p ≤ s.size) : (s.extract b p).size = p - b := by rw [ByteArray.size_extract]; omega
def Fit (s : ByteArray) (x : ByteArray × Nat) : Prop := Whole x.1 ∧ 0 < x.1.size ∧ x.1.size ≤ s.size ∧ x.2 ≤ s.size
theorem fin_fit {s : ByteArray} {p : Nat} {cur : Option (Nat × Nat)} (hp : p ≤ s.size) (hc : ∀ b a, cur = some (b, a) → Run s b p ∧ b < p ∧ a ≤ s.size) : ∀ x ∈ fin s p cur, Fit s x := by
 intro x hx
 match cur with
 | none => cases hx
 | some (b, a) =>
  obtain ⟨h1, h2, h3⟩ := hc b a rfl
  have : x = (s.extract b p, a) := List.mem_singleton.1 hx
  subst this
  have := ext_size (b := b) hp
  exact ⟨h1.whole hp, by show 0 < (s.extract b p).size; omega, by show (s.extract b p).size ≤ _; omega, h3⟩
theorem splF_fit {s : ByteArray} : ∀ (f p k : Nat) (rm : Bool) (cur : Option (Nat × Nat)), p ≤ s.size → k ≤ p → s.size ≤ p + f → (cntF s f p k).2 = true → (∀ b a, cur = some (b, a) → Run s b p ∧ b < p ∧ a ≤ s.size) → ∀ x ∈ splF s f p k rm cur, Fit s x
 | 0, p, k, rm, cur, hp, hk, hf, hv, hc => fin_fit hp hc
 | f + 1, p, k, rm, cur, hp, hk, hf, hv, hc => by
  intro x hx
  rw [splF] at hx
  by_cases hlt : p < s.size
  ·rw [if_pos hlt] at hx
   obtain ⟨h0, hv2⟩ := cntF_ok hlt (by omega) hv
   have hle := nx_le s p hlt h0
   split at hx
   ·rcases List.mem_append.1 hx with h | h
    ·exact fin_fit hp hc x h
    ·exact splF_fit f _ _ _ none hle (by omega) (by omega) hv2 (fun b a e => by cases e) x h
   ·refine splF_fit f _ _ _ _ hle (by omega) (by omega) hv2 (fun b a e => ?_) x hx
    match cur with
    | none =>
     have e2 : (p, k) = (b, a) := by injection e
     injection e2 with h1 h2
     subst h1 h2
     exact ⟨Run.here.step hlt h0, by omega, by omega⟩
    | some (b', a') =>
     have e2 : (b', a') = (b, a) := by injection e
     injection e2 with h1 h2
     subst h1 h2
     obtain ⟨g1, g2, g3⟩ := hc b' a' rfl
     exact ⟨g1.step hlt h0, by omega, g3⟩
  ·rw [if_neg hlt] at hx
   exact fin_fit hp hc x hx
theorem spl_fit {s : ByteArray} (h : Whole s) : ∀ x ∈ spl s, Fit s x := splF_fit s.size 0 0 false none (by omega) (by omega) (by omega) h.cnt (fun b a e => by cases e)
theorem fin_len (s : ByteArray) (p : Nat) (cur : Option (Nat × Nat)) : (fin s p cur).length ≤ 1 := by
 match cur with
 | none => exact Nat.zero_le _
 | some (b, a) => exact Nat.le_refl _
theorem splF_len (s : ByteArray) : ∀ (f p k : Nat) (rm : Bool) (cur : Option (Nat × Nat)), (splF s f p k rm cur).length ≤ f + 1
 | 0, p, k, rm, cur => fin_len s p cur
 | f + 1, p, k, rm, cur => by
  have h1 := fin_len s p cur
  rw [splF]
  split
  ·split
   ·rw [List.length_append]
    have := splF_len s f (p + nx s p) (k + 1) (rmk rm (byt s p)) none
    omega
   ·have := splF_len s f (p + nx s p) (k + 1) (rmk rm (byt s p)) (some (cur.getD (p, k)))
    omega
  ·omega
theorem spl_len (s : ByteArray) : (spl s).length ≤ s.size + 1 := splF_len s _ _ _ _ _
-- one rune of a text
theorem rune_is (s : ByteArray) (p x : Nat) (hx : x < 128) (h0 : nx s p ≠ 0) : (Utf8.decode s p).1 = x ↔ byt s p = x := by
 obtain ⟨h1, h2⟩ := rune_small s p h0
 constructor
 ·intro e
  have h := h1.1 (by omega)
  rw [← h2 h, e]
 ·intro e
  rw [h2 (nx_ascii s p (by omega)), e]
def cells2 (l : List (ByteArray × Nat)) : List Value := l.flatMap fun x => [.string x.1, .int .i64 (x.2 : Int)]
theorem cells2_snoc (l : List (ByteArray × Nat)) (t : ByteArray) (a : Nat) : cells2 (l ++ [(t, a)]) = cells2 l ++ [.string t, .int .i64 (a : Int)] := by
 unfold cells2
 rw [List.flatMap_append]
 rfl
theorem cells2_at (l : List (ByteArray × Nat)) (i : Nat) (h : i < l.length) : (cells2 l)[i * 2]? = some (.string (l[i]).1) ∧ (cells2 l)[i * 2 + 1]? = some (.int .i64 ((l[i]).2 : Int)) := by
 induction l generalizing i with
 | nil => exact absurd h (Nat.not_lt_zero _)
 | cons x r ih =>
  have e : cells2 (x :: r) = .string x.1 :: .int .i64 (x.2 : Int) :: cells2 r := by unfold cells2; rw [List.flatMap_cons]; rfl
  rw [e]
  cases i with
  | zero => exact ⟨rfl, rfl⟩
  | succ i =>
   have h2 := ih i (by simpa using h)
   rw [show (i + 1) * 2 = i * 2 + 2 by omega]
   exact h2
end
section
open Go.RowKit
set_option maxRecDepth 100000
def laidV (i : It) : Value := .tuple #[.string ⟨i.cd.toArray⟩, .string (if i.k = 1 then i.nm else ⟨#[]⟩), .string (if i.k = 2 then i.nm else ⟨#[]⟩), .int .i64 (if i.fl = 0 then 0 else if i.fl = 2 then 1 else 2)]
def numN (o : Option (Nat × Bool)) (e : Ending) : Prop := match o with
 | none => ∃ r g, e = .returned (.tuple #[wv r, .bool false, .bool g])
 | some (n, g) => e = .returned (.tuple #[wv n, .bool true, .bool g])
end
section
open Go.RowKit
set_option maxRecDepth 100000
def six (a b c d e f : Value) : Nat → Value := fun i => if i = 0 then a else if i = 1 then b else if i = 2 then c else if i = 3 then d else if i = 4 then e else f
theorem k6 {i : Nat} (h : i < 6) : i = 0 ∨ i = 1 ∨ i = 2 ∨ i = 3 ∨ i = 4 ∨ i = 5 := by omega
theorem row_lit6 {w : World} {n : Nat} {t : TypeId} (a b c d e f : Value) (hn : n = w.heap.size) : (w.alloc (.cells #[a, b, c, d, e, f] t)).rowIs n t 6 (six a b c d e f) := by
 subst hn
 refine World.rowIs_alloc w _ t _ fun i hi => ?_
 rcases k6 hi with rfl | rfl | rfl | rfl | rfl | rfl <;> rfl
theorem row_cells6 {w : World} {p : Nat} {t : TypeId} {a b c d e f : Value} (h : w.rowIs p t 6 (six a b c d e f)) :
  w.cell? ⟨p, 0, none⟩ = some a ∧ w.cell? ⟨p, 1, none⟩ = some b ∧ w.cell? ⟨p, 2, none⟩ = some c ∧ w.cell? ⟨p, 3, none⟩ = some d ∧ w.cell? ⟨p, 4, none⟩ = some e ∧ w.cell? ⟨p, 5, none⟩ = some f :=
 ⟨h.cell (i := 0) (by omega), h.cell (i := 1) (by omega), h.cell (i := 2) (by omega), h.cell (i := 3) (by omega), h.cell (i := 4) (by omega), h.cell (i := 5) (by omega)⟩
theorem row_put6 {w : World} {p : Nat} {t : TypeId} {g : Nat → Value} (h : w.rowIs p t 6 g) (a b c d e f : Value) :
  ((((((w.setCell ⟨p, 0, none⟩ a).setCell ⟨p, 1, none⟩ b).setCell ⟨p, 2, none⟩ c).setCell ⟨p, 3, none⟩ d).setCell ⟨p, 4, none⟩ e).setCell ⟨p, 5, none⟩ f).rowIs p t 6 (six a b c d e f) := by
 refine ((((((h.set 0 _).set 1 _).set 2 _).set 3 _).set 4 _).set 5 _).congr fun i hi => ?_
 rcases k6 hi with rfl | rfl | rfl | rfl | rfl | rfl <;> rfl
theorem below_put6 {w w' : World} (h : Below w.heap.size w w') {p : Nat} (hp : w.heap.size ≤ p) (a b c d e f : Value) :
  Below w.heap.size w ((((((w'.setCell ⟨p, 0, none⟩ a).setCell ⟨p, 1, none⟩ b).setCell ⟨p, 2, none⟩ c).setCell ⟨p, 3, none⟩ d).setCell ⟨p, 4, none⟩ e).setCell ⟨p, 5, none⟩ f) :=
 (((((h.setCell hp _).setCell hp _).setCell hp _).setCell hp _).setCell hp _).setCell hp _
theorem ownsRow_set {w : World} {base e size n : Nat} {v : Value} {xs : List Value} (h : w.ownsRow base e size v n xs) {p : Addr} (hp : p.block < base) (u : Value) : (w.setCell p u).ownsRow base e size v n xs := by
 refine ⟨h.1, h.2.imp id fun ⟨g, cap, cur, h1, h2, h3, h4⟩ => ⟨g, cap, cur, h1, h2, ?_, h4⟩⟩
 rw [Below.heap_setCell w p u g (by omega)]
 exact h3
theorem Bys.put6 {x : World} {base : Nat} {v : Value} {l : List UInt8} (h : Bys x base v l) {p : Nat} (hp : p < base) (a b c d e f : Value) :
  Bys ((((((x.setCell ⟨p, 0, none⟩ a).setCell ⟨p, 1, none⟩ b).setCell ⟨p, 2, none⟩ c).setCell ⟨p, 3, none⟩ d).setCell ⟨p, 4, none⟩ e).setCell ⟨p, 5, none⟩ f) base v l :=
 ownsRow_set (ownsRow_set (ownsRow_set (ownsRow_set (ownsRow_set (ownsRow_set h hp _) hp _) hp _) hp _) hp _) hp _
theorem ownsRow_below {w w' : World} {base e size n : Nat} {v : Value} {xs : List Value} (h : w.ownsRow base e size v n xs) (hb : Below w.heap.size w w') : w'.ownsRow base e size v n xs := by
 refine ⟨h.1, h.2.imp id fun ⟨g, cap, cur, h1, h2, h3, h4⟩ => ⟨g, cap, cur, h1, h2, ?_, h4⟩⟩
 rw [hb.block g (lt_of_block h3)]
 exact h3
theorem bys_lit (w : World) (base : Nat) (hb : base ≤ w.heap.size) (l : List UInt8) (hl : l.length ≤ 40) : Bys (w.alloc (.cells (l.map u8v).toArray 5)) base (.slice (some ⟨w.heap.size, 0, none⟩) l.length l.length) l := by
 have h := World.ownsRow_lit (base := base) (e := 5) (size := 1) w (l.map u8v).toArray l.length hb (by unfold maxLen; omega) (by simp)
 have e : (l.map u8v).toArray.toList = l.map u8v := rfl
 rw [e] at h
 exact h
def itV (i : It) (v : Value) (a p : Nat) : Value := .agg #[.int .i64 (i.k : Int), .string i.nm, v, .int .i64 (i.fl : Int), .int .i64 (a : Int), .int .i64 (p : Int)]
structure RI (w x : World) : Prop where
 r : x.rowIs w.heap.size 122 6 (six (.int .i64 0) (.string ⟨#[]⟩) (.slice none 0 0) (.int .i64 0) (.int .i64 0) (.int .i64 0))
 be : Below w.heap.size w x
theorem RI.call {w x y : World} (h : RI w x) (hb : Below x.heap.size x y) : RI w y := ⟨row_below h.r hb, bcall h.be hb⟩
def Got (s : ByteArray) (w : World) (e : Ending) (w' : World) : Prop := ∃ v, e = .returned (itV (itm s) v 0 0) ∧ Bys w' w.heap.size v (itm s).cd ∧ Below w.heap.size w w'
set_option maxHeartbeats 8000000 in
theorem readItem_any (s : ByteArray) (hs : s.size ≤ 2000) (hv : Hid (Whole s)) (h0 : 0 < s.size) (w : World) : Calls Tryz.prog 79 #[.string s] w fun e w' => Got s w e w' := by
 obtain ⟨t, HT⟩ : ∃ t, Hid (t = cutS s col) := ⟨_, rfl⟩
 obtain ⟨q, HQ⟩ : ∃ q, Hid (q = sf s col) := ⟨_, rfl⟩
 have HCS : Hid (∀ w, Calls Tryz.prog 140 #[.string s, .string ⟨#[58]⟩] w fun e w' => e = .returned (.tuple #[.string t, .bool q]) ∧ w' = w) := fun w => by
  have h := cutSuffix_any s col hs (by decide) w
  rw [← HT.out, ← HQ.out] at h
  exact h
 have HPN : Hid (q = true → ∀ w, Calls Tryz.prog 141 #[.string t] w fun e w' => e = .returned (.bool (isL s)) ∧ Below w.heap.size w w') := fun hq w => by
  have hsf : sf s col = true := by rw [← HQ.out, hq]
  have ht : t = s.extract 0 (s.size - 1) := by rw [HT.out, cut_col hsf]
  have hb : byt s (s.size - 1) = 58 := by
   rw [sf_col, Bool.and_eq_true, decide_eq_true_eq, decide_eq_true_eq] at hsf
   exact hsf.2
  have hw : Whole t := by rw [ht]; exact hv.out.butLast h0 (by omega)
  have h := pisName_any t (by rw [ht, ByteArray.size_extract]; omega) hw.cnt w
  have e : isL s = nm t := by unfold isL; rw [hsf, Bool.true_and, HT.out]
  rw [e]
  exact h
 have HFL : Hid (q = false → isL s = false) := fun hq => by unfold isL; rw [← HQ.out, hq]; rfl
 have hri : RI w (w.alloc (.cells #[.int .i64 0, .string ⟨#[]⟩, .slice none 0 0, .int .i64 0, .int .i64 0, .int .i64 0] 122)) := ⟨row_lit6 _ _ _ _ _ _ rfl, bal (Below.refl _ _) _⟩
 go_enter Tryz.func79, Tryz.ntmps79
 go_wp2_with fail
 refine (HCS.out _).mono ?_
 rintro e w' ⟨rfl, rfl⟩
 go_upto_region 2 with fail
 go_cut [20] (fun t20 wx => t20 = .bool (isL s) ∧ RI w wx)
 case first =>
  cases q
  ·have E := HFL.out rfl
   go_wp2_with fail
   go_meet
   case rel => exact ⟨by rw [E], hri⟩
  ·have HP2 := hid_of (HPN.out rfl)
   clear HPN HFL
   go_wp2_with fail
   refine (HP2.out _).mono ?_
   rintro e w2 ⟨rfl, hb2⟩
   go_wp2_with fail
   go_meet
   case rel => exact ⟨rfl, hri.call hb2⟩
 case rest =>
  clear HPN HFL hri
  obtain ⟨rfl, hri⟩ := hcut
  cases hL : isL s
  ·obtain ⟨t2, HT2⟩ : ∃ t, Hid (t = cutP s att) := ⟨_, rfl⟩
   obtain ⟨q2, HQ2⟩ : ∃ q, Hid (q = pf s att) := ⟨_, rfl⟩
   have HCP : Hid (∀ w, Calls Tryz.prog 142 #[.string s, .string ⟨#[64]⟩] w fun e w' => e = .returned (.tuple #[.string t2, .bool q2]) ∧ w' = w) := fun w => by
    have h := cutPrefix_any s att hs (by decide) w
    rw [← HT2.out, ← HQ2.out] at h
    exact h
   have HPN : Hid (q2 = true → ∀ w, Calls Tryz.prog 141 #[.string t2] w fun e w' => e = .returned (.bool (isA s)) ∧ Below w.heap.size w w') := fun hq w => by
    have hsf : pf s att = true := by rw [← HQ2.out, hq]
    have ht : t2 = s.extract 1 s.size := by rw [HT2.out, cut_att hsf]
    have hb : byt s 0 = 64 := by
     rw [pf_att s h0, decide_eq_true_eq] at hsf
     exact hsf
    have hw : Whole t2 := by rw [ht]; exact hv.out.butFirst h0 (by omega)
    have h := pisName_any t2 (by rw [ht, ByteArray.size_extract]; omega) hw.cnt w
    have e : isA s = nm t2 := by unfold isA; rw [hsf, Bool.true_and, HT2.out]
    rw [e]
    exact h
   have HFL : Hid (q2 = false → isA s = false) := fun hq => by unfold isA; rw [← HQ2.out, hq]; rfl
   go_wp2_with fail
   refine (HCP.out _).mono ?_
   rintro e w' ⟨rfl, rfl⟩
   go_upto_region 5 with fail
   go_cut [33] (fun t33 wx => t33 = .bool (isA s) ∧ RI w wx)
   case first =>
    cases q2
    ·have E := HFL.out rfl
     go_wp2_with fail
     go_meet
     case rel => exact ⟨by rw [E], hri⟩
    ·have HP2 := hid_of (HPN.out rfl)
     clear HPN HFL
     go_wp2_with fail
     refine (HP2.out _).mono ?_
     rintro e w2 ⟨rfl, hb2⟩
     go_wp2_with fail
     go_meet
     case rel => exact ⟨rfl, hri.call hb2⟩
   case rest =>
    clear HPN HFL hri
    obtain ⟨rfl, hri⟩ := hcut
    cases hA : isA s
    ·have HIN : Hid (itm s = itN s) := by show _ = _; unfold itm; rw [hL, hA]; rfl
     clear hL hA
     obtain ⟨o, HO⟩ : ∃ o, Hid (o = named s) := ⟨_, rfl⟩
     go_wp2_with fail
     refine (named_any s hs _).mono ?_
     rintro e w' ⟨rfl, rfl⟩
     rw [← HO.out]
     cases o with
     | some b =>
      have HI : Hid (itm s = ⟨0, ⟨#[]⟩, [UInt8.ofNat b], 0⟩) := by show _ = _; rw [HIN.out, itN_some HO.out.symm]
      have hb256 := (named_ok HO.out.symm).2.2
      unfold pr
      simp only [Option.getD_some, Option.isSome_some]
      have hr2 := hri.r.alloc (.cells #[.int .u8 (b : Int)] 5)
      have hlt := hri.r.lt
      have hby : Bys (w'.alloc (.cells #[.int .u8 (b : Int)] 5)) (w.heap.size + 1) (.slice (some ⟨w'.heap.size, 0, none⟩) 1 1) [UInt8.ofNat b] := by
       have h := bys_lit w' (w.heap.size + 1) (by omega) [UInt8.ofNat b] (by show 1 ≤ 40; omega)
       have e : u8v (UInt8.ofNat b) = .int .u8 (b : Int) := by unfold u8v; rw [UInt8.toNat_ofNat_of_lt' hb256]
       rw [← e]
       exact h
      have hbe2 := bal hri.be (.cells #[.int .u8 (b : Int)] 5)
      have HY := hid_of hby
      have HLT := hid_of hlt
      obtain ⟨c0, c1, c2, c3, c4, c5⟩ := row_cells6 hr2
      have fz := hr2.frozen
      clear hby hlt
      go_wp2
      have hby := HY.out
      obtain ⟨q0, q1, q2, q3, q4, q5⟩ := row_cells6 (row_put6 hr2 (.int .i64 0) (.string ⟨#[]⟩) ((.slice (some ⟨w'.heap.size, 0, none⟩) 1 1)) (.int .i64 0) (.int .i64 0) (.int .i64 0))
      refine bodyPost_ret (v := itV (itm s) ((.slice (some ⟨w'.heap.size, 0, none⟩) 1 1)) 0 0) ?_ rfl ⟨_, rfl, ?_, below_put6 hbe2 (Nat.le_refl _) _ _ _ _ _ _⟩
      ·rw [HI.out]; simp [results, Tryz.results79, go_sem, q0, q1, q2, q3, q4, q5]; rfl
      ·rw [HI.out]; exact (Bys.put6 hby (by have := HLT.out; omega) _ _ _ _ _ _).mono (by have := HLT.out; omega)
     | none =>
      have hnd : named s = none := HO.out.symm
      have HRN : rnumber s = match nres (nt s) (nb s) with
        | none => (0, 2)
        | some (n, g) => if g then (0, 4) else (n, 0) := by unfold rnumber; rw [rnum_nres, nums_agree]; cases nres (cutP s x0) (rbase s) <;> rfl
      have HIN2 := itN_none hnd
      rw [← HIN.out] at HIN2
      unfold pr
      simp only [Option.getD_none, Option.isSome_none]
      clear HIN hnd
      have HX : Hid (∃ (n : Nat) (k : Nat), rnumber s = (n, (k : Int)) ∧ ((k ≠ 0 ∧ (k = 2 ∨ k = 4) ∧ itm s = ⟨0, ⟨#[]⟩, [], k⟩) ∨ (k = 0 ∧ itm s = ⟨0, ⟨#[]⟩, pcode n, 0⟩))) := by
       cases hr : nres (nt s) (nb s) with
       | none => rw [hr] at HRN HIN2; exact ⟨0, 2, HRN, Or.inl ⟨by omega, Or.inl rfl, HIN2⟩⟩
       | some p =>
        obtain ⟨n, g⟩ := p
        rw [hr] at HRN HIN2
        cases g
        ·exact ⟨n, 0, HRN, Or.inr ⟨rfl, HIN2⟩⟩
        ·exact ⟨0, 4, HRN, Or.inl ⟨by omega, Or.inr rfl, HIN2⟩⟩
      clear HRN HIN2
      obtain ⟨n, k, hrn, hX⟩ := HX.out
      have HRN2 : Hid (rnumber s = (n, (k : Int))) := hrn
      clear hrn HX
      have HX2 := hid_of hX
      clear hX
      have HRI := hid_of hri
      clear hri
      go_wp2_with fail
      refine (readNumber_any s hs _).mono ?_
      rintro e w1 ⟨r, k2, HR, rfl, hb1⟩
      have hrk : (r, k2) = (n, (k : Int)) := HR.out.trans HRN2.out
      obtain ⟨rfl, rfl⟩ : r = n ∧ k2 = (k : Int) := by injection hrk with h1 h2; exact ⟨h1, h2⟩
      have hri1 := HRI.out.call hb1
      have hri : RI w (w1.alloc (.cells #[.int .u64 (limb r 0), .int .u64 (limb r 1), .int .u64 (limb r 2), .int .u64 (limb r 3)] 24)) := ⟨hri1.r.alloc _, bal hri1.be _⟩
      have hlt := hri1.r.lt
      have HLT := hid_of hlt
      clear hrk HR HRN2 hb1 hri1 HRI hlt
      rcases HX2.out with ⟨hk0, hk24, hI⟩ | ⟨rfl, hI⟩
      ·have HI := hid_of hI
       clear HX2 hI
       have hd : ((k : Int) != 0) = true := by simp; omega
       have hr2 := hri.r
       have hbe2 := hri.be
       have HY : Hid (Bys (w1.alloc (.cells #[.int .u64 (limb r 0), .int .u64 (limb r 1), .int .u64 (limb r 2), .int .u64 (limb r 3)] 24)) (w.heap.size + 1) (.slice none 0 0) []) := World.ownsRow_nil _ _ _ _
       obtain ⟨c0, c1, c2, c3, c4, c5⟩ := row_cells6 hr2
       have fz := hr2.frozen
       go_wp2
       have hby := HY.out
       obtain ⟨q0, q1, q2, q3, q4, q5⟩ := row_cells6 (row_put6 hr2 (.int .i64 0) (.string ⟨#[]⟩) (.slice none 0 0) (.int .i64 (k : Int)) (.int .i64 0) (.int .i64 0))
       refine bodyPost_ret (v := itV (itm s) (.slice none 0 0) 0 0) ?_ rfl ⟨_, rfl, ?_, below_put6 hbe2 (Nat.le_refl _) _ _ _ _ _ _⟩
       ·rw [HI.out]; simp [results, Tryz.results79, go_sem, q0, q1, q2, q3, q4, q5]; rfl
       ·rw [HI.out]; exact (Bys.put6 hby (by have := HLT.out; omega) _ _ _ _ _ _).mono (by have := HLT.out; omega)
      ·have HI := hid_of hI
       clear HX2 hI
       have hrow : (w1.alloc (.cells #[.int .u64 (limb r 0), .int .u64 (limb r 1), .int .u64 (limb r 2), .int .u64 (limb r 3)] 24)).rowIs w1.heap.size 24 4 (u64s (limb r)) := row_lit4 (limb r) rfl rfl rfl rfl rfl
       obtain ⟨d0, d1, d2, d3⟩ := row_cells4 hrow
       go_wp2_with fail
       refine (push_any r _).mono ?_
       rintro e w2 ⟨v, rfl, hby0, hb2⟩
       have hri2 := hri.call hb2
       have hr2 := hri2.r
       have hbe2 := hri2.be
       have hby1 : Bys w2 (w.heap.size + 1) v (pcode r) := hby0.mono (by have := HLT.out; simp; omega)
       have HY := hid_of hby1
       obtain ⟨g, cap, rfl, hg1, hg2, hg3⟩ := own_shape hby1 (by unfold pcode pcs; simp)
       clear hby0 hby1 hrow d0 d1 d2 d3 hri hb2 hri2 hg1 hg2 hg3
       obtain ⟨c0, c1, c2, c3, c4, c5⟩ := row_cells6 hr2
       have fz := hr2.frozen
       generalize (pcode r).length = cl at *
       go_wp2
       have hby := HY.out
       obtain ⟨q0, q1, q2, q3, q4, q5⟩ := row_cells6 (row_put6 hr2 (.int .i64 0) (.string ⟨#[]⟩) (.slice (some ⟨g, 0, none⟩) cl cap) (.int .i64 0) (.int .i64 0) (.int .i64 0))
       refine bodyPost_ret (v := itV (itm s) (.slice (some ⟨g, 0, none⟩) cl cap) 0 0) ?_ rfl ⟨_, rfl, ?_, below_put6 hbe2 (Nat.le_refl _) _ _ _ _ _ _⟩
       ·rw [HI.out]; simp [results, Tryz.results79, go_sem, q0, q1, q2, q3, q4, q5]; rfl
       ·rw [HI.out]; exact (Bys.put6 hby (by have := HLT.out; omega) _ _ _ _ _ _).mono (by have := HLT.out; omega)
    ·have HI : Hid (itm s = ⟨2, t2, [97, 0, 0], 0⟩) := by show _ = _; unfold itm; rw [hL, hA, HT2.out]; rfl
     clear hL hA
     have hr2 := hri.r.alloc (.cells #[.int .u8 97, .int .u8 0, .int .u8 0] 5)
     have hlt := hri.r.lt
     have hby : Bys (wc.alloc (.cells #[.int .u8 97, .int .u8 0, .int .u8 0] 5)) (w.heap.size + 1) (.slice (some ⟨wc.heap.size, 0, none⟩) 3 3) [97, 0, 0] := bys_lit wc _ (by omega) [97, 0, 0] (by decide)
     have hbe2 := bal hri.be (.cells #[.int .u8 97, .int .u8 0, .int .u8 0] 5)
     have HY := hid_of hby
     have HLT := hid_of hlt
     obtain ⟨c0, c1, c2, c3, c4, c5⟩ := row_cells6 hr2
     have fz := hr2.frozen
     clear hby hlt
     go_wp2
     have hby := HY.out
     obtain ⟨q0, q1, q2, q3, q4, q5⟩ := row_cells6 (row_put6 hr2 (.int .i64 2) (.string t2) ((.slice (some ⟨wc.heap.size, 0, none⟩) 3 3)) (.int .i64 0) (.int .i64 0) (.int .i64 0))
     refine bodyPost_ret (v := itV (itm s) ((.slice (some ⟨wc.heap.size, 0, none⟩) 3 3)) 0 0) ?_ rfl ⟨_, rfl, ?_, below_put6 hbe2 (Nat.le_refl _) _ _ _ _ _ _⟩
     ·rw [HI.out]; simp [results, Tryz.results79, go_sem, q0, q1, q2, q3, q4, q5]; rfl
     ·rw [HI.out]; exact (Bys.put6 hby (by have := HLT.out; omega) _ _ _ _ _ _).mono (by have := HLT.out; omega)
  ·have HI : Hid (itm s = ⟨1, t, [91], 0⟩) := by show _ = _; unfold itm; rw [hL, HT.out]; rfl
   clear hL
   have hr2 := hri.r.alloc (.cells #[.int .u8 91] 5)
   have hlt := hri.r.lt
   have hby : Bys (wc.alloc (.cells #[.int .u8 91] 5)) (w.heap.size + 1) (.slice (some ⟨wc.heap.size, 0, none⟩) 1 1) [91] := bys_lit wc _ (by omega) [91] (by decide)
   have hbe2 := bal hri.be (.cells #[.int .u8 91] 5)
   have HY := hid_of hby
   have HLT := hid_of hlt
   obtain ⟨c0, c1, c2, c3, c4, c5⟩ := row_cells6 hr2
   have fz := hr2.frozen
   clear hby hlt
   go_wp2
   have hby := HY.out
   obtain ⟨q0, q1, q2, q3, q4, q5⟩ := row_cells6 (row_put6 hr2 (.int .i64 1) (.string t) ((.slice (some ⟨wc.heap.size, 0, none⟩) 1 1)) (.int .i64 0) (.int .i64 0) (.int .i64 0))
   refine bodyPost_ret (v := itV (itm s) ((.slice (some ⟨wc.heap.size, 0, none⟩) 1 1)) 0 0) ?_ rfl ⟨_, rfl, ?_, below_put6 hbe2 (Nat.le_refl _) _ _ _ _ _ _⟩
   ·rw [HI.out]; simp [results, Tryz.results79, go_sem, q0, q1, q2, q3, q4, q5]; rfl
   ·rw [HI.out]; exact (Bys.put6 hby (by have := HLT.out; omega) _ _ _ _ _ _).mono (by have := HLT.out; omega)
end
section
open Go.RowKit Go.Lib
set_option maxRecDepth 100000
theorem parts_any (r : Nat) (w : World) : Calls Tryz.prog 139 #[.int .i32 (r : Int)] w fun e w' => e = .returned (.bool (sepB r)) ∧ w' = w := by
 by_cases h1 : r = 32
 ·subst h1
  go_enter Tryz.func139, Tryz.ntmps139
  go_wp2
  go_ret
  exact ⟨rfl, rfl⟩
 ·have d1 : ((r : Int) == 32) = false := by simp; omega
  by_cases h2 : r = 9
  ·subst h2
   go_enter Tryz.func139, Tryz.ntmps139
   go_wp2
   go_ret
   exact ⟨rfl, rfl⟩
  ·have d2 : ((r : Int) == 9) = false := by simp; omega
   by_cases h3 : r = 10
   ·subst h3
    go_enter Tryz.func139, Tryz.ntmps139
    go_wp2
    go_ret
    exact ⟨rfl, rfl⟩
   ·have d3 : ((r : Int) == 10) = false := by simp; omega
    by_cases h4 : r = 59
    ·subst h4
     go_enter Tryz.func139, Tryz.ntmps139
     go_wp2
     go_ret
     exact ⟨rfl, rfl⟩
    ·have d4 : ((r : Int) == 59) = false := by simp; omega
     have HS : Hid (sepB r = false) := decide_eq_false (by omega)
     go_enter Tryz.func139, Tryz.ntmps139
     go_wp2
     go_ret
     exact ⟨by rw [HS.out]; rfl, rfl⟩
structure SP (w : World) (s : ByteArray) (p : Nat) (v : Value) (acc : List (ByteArray × Nat)) (x : World) : Prop where
 it : x.heap[w.heap.size]? = some (.stringIter s p)
 ow : x.ownsRow (w.heap.size + 1) 171 2 v acc.length (cells2 acc)
 be : Below w.heap.size w x
theorem own_other {w w' : World} {base e size n : Nat} {v : Value} {xs : List Value} (h : w.ownsRow base e size v n xs) (hb : ∀ g, base ≤ g → w'.heap[g]? = w.heap[g]?) : w'.ownsRow base e size v n xs :=
 ⟨h.1, h.2.imp id fun ⟨g, cap, cur, h1, h2, h3, h4⟩ => ⟨g, cap, cur, h1, h2, by rw [hb g h2]; exact h3, h4⟩⟩
theorem SP.next {w : World} {s : ByteArray} {p : Nat} {v : Value} {acc : List (ByteArray × Nat)} {x : World} (h : SP w s p v acc x) (q : Nat) : SP w s q v acc (x.iterAt w.heap.size s q) :=
 ⟨iterAt_heap x _ s p q h.it, own_other h.ow fun g hg => iterAt_other x _ g s q (by omega), below_iterAt h.be (by omega) s q⟩
theorem info_piece : (Tryz.prog.info? 171).map (fun i => (i.zero, i.size, i.bytes)) = some (some (.agg #[.string ⟨#[]⟩, .int .i64 0]), 2, 24) := by kernel_rfl
theorem own_mono {w : World} {b c e size n : Nat} {v : Value} {xs : List Value} (h : w.ownsRow b e size v n xs) (hc : c ≤ b) : w.ownsRow c e size v n xs :=
 ⟨h.1, h.2.imp id fun ⟨g, cap, cur, a1, a2, a3⟩ => ⟨g, cap, cur, a1, Nat.le_trans hc a2, a3⟩⟩
theorem own_slice {w : World} {b e size n : Nat} {v : Value} {xs : List Value} (h : w.ownsRow b e size v n xs) : ∃ (ad : Option Addr) (ln cp : Nat), v = .slice ad ln cp := by
 rcases h.2 with ⟨hv, _⟩ | ⟨g, cap, cur, hv, _⟩
 ·exact ⟨_, _, _, hv⟩
 ·exact ⟨_, _, _, hv⟩
theorem own_low2 {w : World} {b e size n k : Nat} {v : Value} {xs : List Value} (h : w.ownsRow (b + 1) e size v n xs) (hk : some k = v.ownBlock) : b + 1 ≤ k := (h.lt k hk.symm).1
theorem own_low {w : World} {b e size n : Nat} {v : Value} {xs : List Value} (h : w.ownsRow (b + 1) e size v n xs) : ∀ k, v.ownBlock = some k → b ≤ k := fun k hk => by have := (h.lt k hk).1; omega
theorem heap_alloc_lt (w : World) (o : Obj) (k : Nat) (h : k < w.heap.size) : (w.alloc o).heap[k]? = w.heap[k]? := Below.heap_alloc w o k h
def bgn (cur : Option (Nat × Nat)) (a : Nat) (bi : Int) (p : Nat) : Prop := (bi = -1 ∧ cur = none) ∨ ∃ b : Nat, bi = (b : Int) ∧ b < p ∧ cur = some (b, a)
set_option maxHeartbeats 8000000 in
theorem split_any (s : ByteArray) (hs : s.size ≤ 2000) (hv : Hid (Whole s)) (w : World) : Calls Tryz.prog 78 #[.string s] w fun e w' => ∃ v, e = .returned v ∧ w'.ownsRow w.heap.size 171 2 v (spl s).length (cells2 (spl s)) ∧ Below w.heap.size w w' := by
 obtain ⟨i0, hi0, hz0, hz1, hz2⟩ := info_parts info_piece
 have HI := hid_of (And.intro hi0 (And.intro hz0 (And.intro hz1 hz2)))
 clear hi0 hz0 hz1 hz2
 go_enter Tryz.func78, Tryz.ntmps78
 go_wp2
 go_loopw [3, 4, 5, 6, 7] (fun t3 t4 t5 t6 t7 wr => ∃ (p f k a : Nat) (rm : Bool) (bi : Int) (cur : Option (Nat × Nat)) (acc : List (ByteArray × Nat)), t6 = .int .i64 (k : Int) ∧ t7 = .bool rm ∧ t4 = .int .i64 bi ∧ t5 = .int .i64 (a : Int) ∧ SP w s p t3 acc wr ∧ k ≤ p ∧ p ≤ s.size ∧ s.size ≤ p + f ∧ acc.length ≤ p ∧ Hid (bgn cur a bi p) ∧ Hid (acc ++ splF s f p k rm cur = spl s) ∧ Hid ((cntF s f p k).2 = true)) (fun _ _ _ _ _ wr => s.size - wr.iterPos w.heap.size)
 case atStart => exact ⟨0, s.size, 0, 0, false, -1, none, [], rfl, rfl, rfl, rfl, ⟨World.iter_heap w s 0, World.ownsRow_nil _ _ _ _, bal (Below.refl _ _) _⟩, by omega, by omega, by omega, by simp, Or.inl ⟨rfl, rfl⟩, rfl, hv.out.cnt⟩
 case round =>
  obtain ⟨p, f, k, a, rm, bi, cur, acc, rfl, rfl, rfl, rfl, hsp, hk, hps, hf, hac, HBG, HS, HV⟩ := hrel
  have HPOS : Hid (wr.iterPos w.heap.size = p) := by show _ = _; simp [World.iterPos, hsp.it]
  by_cases hp : p < s.size
  ·have hnx : ∀ ty, (Instr.next (.pointer (some ⟨w.heap.size, 0, none⟩)) true ty).run Tryz.prog wr = _ := fun ty => run_next_any_at wr w.heap.size s p ty hsp.it hp
   obtain ⟨h0, hv2⟩ := cntF_ok hp (by omega) HV.out
   have HV2 := hid_of hv2
   have hle := nx_le s p hp h0
   have hpos : 0 < nx s p := Nat.pos_of_ne_zero h0
   rw [nx_width s p h0] at hnx
   have hsp2 := hsp.next (p + nx s p)
   have e59 := rune_is s p 59 (by omega) h0
   have e10 := rune_is s p 10 (by omega) h0
   have e32 := rune_is s p 32 (by omega) h0
   have e9 := rune_is s p 9 (by omega) h0
   have HOUT := hid_of (fun (ho : (rm || sepB (byt s p)) = true) => spl_out hp (by omega) ho HS.out)
   have HIN := hid_of (fun (ho : (rm || sepB (byt s p)) = false) => spl_in hp (by omega) ho HS.out)
   have HPA := hid_of (parts_any (Utf8.decode s p).1)
   clear hv2 h0 HV
   generalize nx s p = n at *
   generalize (Utf8.decode s p).1 = r at *
   generalize byt s p = c at *
   have hcls : (c = 59 ∧ ((r : Int) == 59) = true ∧ sepB r = true) ∨ (c = 10 ∧ ((r : Int) == 59) = false ∧ ((r : Int) != 10) = false ∧ sepB r = true) ∨ (sepB c = true ∧ c ≠ 59 ∧ c ≠ 10 ∧ ((r : Int) == 59) = false ∧ ((r : Int) != 10) = true ∧ sepB r = true) ∨ (sepB c = false ∧ c ≠ 59 ∧ c ≠ 10 ∧ ((r : Int) == 59) = false ∧ ((r : Int) != 10) = true ∧ sepB r = false) := by
    unfold sepB
    simp only [decide_eq_true_eq, decide_eq_false_iff_not, beq_iff_eq, bne_iff_ne, beq_eq_false_iff_ne, bne_eq_false_iff_eq, ne_eq]
    omega
   clear e59 e10 e32 e9
   have hlt := lt_of_block hsp2.it
   have hsz := hsp.be.size
   have HLT := hid_of hlt
   have HSP := hid_of hsp2
   have HPO2 : Hid ((wr.iterAt w.heap.size s (p + n)).iterPos w.heap.size = p + n) := by show _ = _; simp only [World.iterPos, hsp2.it]
   clear hlt hsp2 hsp
   rcases hcls with ⟨hc, hr, hg⟩ | ⟨hc, hr, hr2, hg⟩ | ⟨hc, hc2, hc3, hr, hr2, hg⟩ | ⟨hc, hc2, hc3, hr, hr2, hg⟩
   ·subst hc
    cases rm
    ·have HRM : Hid (rmk false 59 = true) := rfl
     have HT := hid_of (HOUT.out (by rfl))
     rw [HRM.out] at HT
     clear HOUT HIN HRM
     rcases HBG.out with ⟨rfl, rfl⟩ | ⟨b, rfl, hb, rfl⟩
     ·go_wp2_with fail
      refine (HPA.out _).mono ?_
      rintro e w' ⟨rfl, rfl⟩
      rw [hg]
      go_wp2
      go_roundw
      case rel => exact ⟨p + n, f - 1, k + 1, a, true, -1, none, acc, by go_num, rfl, rfl, rfl, HSP.out, by omega, by omega, by omega, by omega, Or.inl ⟨rfl, rfl⟩, (by have h := HT.out; simp only [fin, List.append_nil] at h; exact h), HV2⟩
      case measure => rw [HPOS.out, HPO2.out]; omega
     ·go_wp2_with fail
      refine (HPA.out _).mono ?_
      rintro e w' ⟨rfl, rfl⟩
      rw [hg]
      go_wp2_with (first | (at_builtin; obtain ⟨hi0, hz0, hz1, hz2⟩ := HI.out; refine wpList_append_own _ rfl _ _ 168 rfl (w.heap.size + 1) 171 i0 (.agg #[.string ⟨#[]⟩, .int .i64 0]) 2 24 (by kernel_rfl) hi0 hz0 hz1 hz2 rfl (by decide) _ _ _ rfl (HSP.out.ow.alloc _) _ 1 1 [.string (s.extract b p), .int .i64 (a : Int)] rfl rfl (lit_cells _ #[.string (s.extract b p), .int .i64 (a : Int)] 171) (by intro u hu; simp at hu; rcases hu with rfl | rfl <;> rfl) (by unfold maxLen; omega) (by omega) (by have := HLT.out; simp; omega) ?_; intro v' w1 ho3 hgr _; obtain ⟨g', cap', rfl, hg1', hg2', hg3'⟩ := own_shape ho3 (by omega); have HGR := hid_of hgr; have HO3 := hid_of ho3; clear hgr ho3 hi0 hz0 hz1 hz2 hg1' hg2' hg3'))
      go_roundw
      case rel => exact ⟨p + n, f - 1, k + 1, a, true, -1, none, acc ++ [(s.extract b p, a)], by go_num, rfl, rfl, rfl, ⟨(HGR.out.block w.heap.size (by have := HLT.out; simp; omega) (fun e => by have := own_low2 HSP.out.ow e; omega)).trans (by rw [heap_alloc_lt _ _ _ HLT.out]; exact HSP.out.it), by rw [List.length_append, cells2_snoc]; exact HO3.out, (bal HSP.out.be _).grown HGR.out (by have := HLT.out; simp; omega) (own_low HSP.out.ow)⟩, by omega, by omega, by omega, by rw [List.length_append]; show _ + 1 ≤ _; omega, Or.inl ⟨rfl, rfl⟩, HT, HV2⟩
      case measure => rw [HPOS.out]; have hit := (HGR.out.block w.heap.size (by have := HLT.out; simp; omega) (fun e => by have := own_low2 HSP.out.ow e; omega)).trans ((heap_alloc_lt _ _ _ HLT.out).trans HSP.out.it); simp only [World.iterPos, hit]; omega
    ·have HRM : Hid (rmk true 59 = true) := rfl
     have HT := hid_of (HOUT.out (by rfl))
     rw [HRM.out] at HT
     clear HOUT HIN HRM
     rcases HBG.out with ⟨rfl, rfl⟩ | ⟨b, rfl, hb, rfl⟩
     ·go_wp2
      go_roundw
      case rel => exact ⟨p + n, f - 1, k + 1, a, true, -1, none, acc, by go_num, rfl, rfl, rfl, HSP.out, by omega, by omega, by omega, by omega, Or.inl ⟨rfl, rfl⟩, (by have h := HT.out; simp only [fin, List.append_nil] at h; exact h), HV2⟩
      case measure => rw [HPOS.out, HPO2.out]; omega
     ·go_wp2_with (first | (at_builtin; obtain ⟨hi0, hz0, hz1, hz2⟩ := HI.out; refine wpList_append_own _ rfl _ _ 168 rfl (w.heap.size + 1) 171 i0 (.agg #[.string ⟨#[]⟩, .int .i64 0]) 2 24 (by kernel_rfl) hi0 hz0 hz1 hz2 rfl (by decide) _ _ _ rfl (HSP.out.ow.alloc _) _ 1 1 [.string (s.extract b p), .int .i64 (a : Int)] rfl rfl (lit_cells _ #[.string (s.extract b p), .int .i64 (a : Int)] 171) (by intro u hu; simp at hu; rcases hu with rfl | rfl <;> rfl) (by unfold maxLen; omega) (by omega) (by have := HLT.out; simp; omega) ?_; intro v' w1 ho3 hgr _; obtain ⟨g', cap', rfl, hg1', hg2', hg3'⟩ := own_shape ho3 (by omega); have HGR := hid_of hgr; have HO3 := hid_of ho3; clear hgr ho3 hi0 hz0 hz1 hz2 hg1' hg2' hg3'))
      go_roundw
      case rel => exact ⟨p + n, f - 1, k + 1, a, true, -1, none, acc ++ [(s.extract b p, a)], by go_num, rfl, rfl, rfl, ⟨(HGR.out.block w.heap.size (by have := HLT.out; simp; omega) (fun e => by have := own_low2 HSP.out.ow e; omega)).trans (by rw [heap_alloc_lt _ _ _ HLT.out]; exact HSP.out.it), by rw [List.length_append, cells2_snoc]; exact HO3.out, (bal HSP.out.be _).grown HGR.out (by have := HLT.out; simp; omega) (own_low HSP.out.ow)⟩, by omega, by omega, by omega, by rw [List.length_append]; show _ + 1 ≤ _; omega, Or.inl ⟨rfl, rfl⟩, HT, HV2⟩
      case measure => rw [HPOS.out]; have hit := (HGR.out.block w.heap.size (by have := HLT.out; simp; omega) (fun e => by have := own_low2 HSP.out.ow e; omega)).trans ((heap_alloc_lt _ _ _ HLT.out).trans HSP.out.it); simp only [World.iterPos, hit]; omega
   ·subst hc
    cases rm
    ·have HRM : Hid (rmk false 10 = false) := rfl
     have HT := hid_of (HOUT.out (by rfl))
     rw [HRM.out] at HT
     clear HOUT HIN HRM
     rcases HBG.out with ⟨rfl, rfl⟩ | ⟨b, rfl, hb, rfl⟩
     ·go_wp2_with fail
      refine (HPA.out _).mono ?_
      rintro e w' ⟨rfl, rfl⟩
      rw [hg]
      go_wp2
      go_roundw
      case rel => exact ⟨p + n, f - 1, k + 1, a, false, -1, none, acc, by go_num, rfl, rfl, rfl, HSP.out, by omega, by omega, by omega, by omega, Or.inl ⟨rfl, rfl⟩, (by have h := HT.out; simp only [fin, List.append_nil] at h; exact h), HV2⟩
      case measure => rw [HPOS.out, HPO2.out]; omega
     ·go_wp2_with fail
      refine (HPA.out _).mono ?_
      rintro e w' ⟨rfl, rfl⟩
      rw [hg]
      go_wp2_with (first | (at_builtin; obtain ⟨hi0, hz0, hz1, hz2⟩ := HI.out; refine wpList_append_own _ rfl _ _ 168 rfl (w.heap.size + 1) 171 i0 (.agg #[.string ⟨#[]⟩, .int .i64 0]) 2 24 (by kernel_rfl) hi0 hz0 hz1 hz2 rfl (by decide) _ _ _ rfl (HSP.out.ow.alloc _) _ 1 1 [.string (s.extract b p), .int .i64 (a : Int)] rfl rfl (lit_cells _ #[.string (s.extract b p), .int .i64 (a : Int)] 171) (by intro u hu; simp at hu; rcases hu with rfl | rfl <;> rfl) (by unfold maxLen; omega) (by omega) (by have := HLT.out; simp; omega) ?_; intro v' w1 ho3 hgr _; obtain ⟨g', cap', rfl, hg1', hg2', hg3'⟩ := own_shape ho3 (by omega); have HGR := hid_of hgr; have HO3 := hid_of ho3; clear hgr ho3 hi0 hz0 hz1 hz2 hg1' hg2' hg3'))
      go_roundw
      case rel => exact ⟨p + n, f - 1, k + 1, a, false, -1, none, acc ++ [(s.extract b p, a)], by go_num, rfl, rfl, rfl, ⟨(HGR.out.block w.heap.size (by have := HLT.out; simp; omega) (fun e => by have := own_low2 HSP.out.ow e; omega)).trans (by rw [heap_alloc_lt _ _ _ HLT.out]; exact HSP.out.it), by rw [List.length_append, cells2_snoc]; exact HO3.out, (bal HSP.out.be _).grown HGR.out (by have := HLT.out; simp; omega) (own_low HSP.out.ow)⟩, by omega, by omega, by omega, by rw [List.length_append]; show _ + 1 ≤ _; omega, Or.inl ⟨rfl, rfl⟩, HT, HV2⟩
      case measure => rw [HPOS.out]; have hit := (HGR.out.block w.heap.size (by have := HLT.out; simp; omega) (fun e => by have := own_low2 HSP.out.ow e; omega)).trans ((heap_alloc_lt _ _ _ HLT.out).trans HSP.out.it); simp only [World.iterPos, hit]; omega
    ·have HRM : Hid (rmk true 10 = false) := rfl
     have HT := hid_of (HOUT.out (by rfl))
     rw [HRM.out] at HT
     clear HOUT HIN HRM
     rcases HBG.out with ⟨rfl, rfl⟩ | ⟨b, rfl, hb, rfl⟩
     ·go_wp2
      go_roundw
      case rel => exact ⟨p + n, f - 1, k + 1, a, false, -1, none, acc, by go_num, rfl, rfl, rfl, HSP.out, by omega, by omega, by omega, by omega, Or.inl ⟨rfl, rfl⟩, (by have h := HT.out; simp only [fin, List.append_nil] at h; exact h), HV2⟩
      case measure => rw [HPOS.out, HPO2.out]; omega
     ·go_wp2_with (first | (at_builtin; obtain ⟨hi0, hz0, hz1, hz2⟩ := HI.out; refine wpList_append_own _ rfl _ _ 168 rfl (w.heap.size + 1) 171 i0 (.agg #[.string ⟨#[]⟩, .int .i64 0]) 2 24 (by kernel_rfl) hi0 hz0 hz1 hz2 rfl (by decide) _ _ _ rfl (HSP.out.ow.alloc _) _ 1 1 [.string (s.extract b p), .int .i64 (a : Int)] rfl rfl (lit_cells _ #[.string (s.extract b p), .int .i64 (a : Int)] 171) (by intro u hu; simp at hu; rcases hu with rfl | rfl <;> rfl) (by unfold maxLen; omega) (by omega) (by have := HLT.out; simp; omega) ?_; intro v' w1 ho3 hgr _; obtain ⟨g', cap', rfl, hg1', hg2', hg3'⟩ := own_shape ho3 (by omega); have HGR := hid_of hgr; have HO3 := hid_of ho3; clear hgr ho3 hi0 hz0 hz1 hz2 hg1' hg2' hg3'))
      go_roundw
      case rel => exact ⟨p + n, f - 1, k + 1, a, false, -1, none, acc ++ [(s.extract b p, a)], by go_num, rfl, rfl, rfl, ⟨(HGR.out.block w.heap.size (by have := HLT.out; simp; omega) (fun e => by have := own_low2 HSP.out.ow e; omega)).trans (by rw [heap_alloc_lt _ _ _ HLT.out]; exact HSP.out.it), by rw [List.length_append, cells2_snoc]; exact HO3.out, (bal HSP.out.be _).grown HGR.out (by have := HLT.out; simp; omega) (own_low HSP.out.ow)⟩, by omega, by omega, by omega, by rw [List.length_append]; show _ + 1 ≤ _; omega, Or.inl ⟨rfl, rfl⟩, HT, HV2⟩
      case measure => rw [HPOS.out]; have hit := (HGR.out.block w.heap.size (by have := HLT.out; simp; omega) (fun e => by have := own_low2 HSP.out.ow e; omega)).trans ((heap_alloc_lt _ _ _ HLT.out).trans HSP.out.it); simp only [World.iterPos, hit]; omega
   ·skip
    cases rm
    ·have HRM : Hid (rmk false c = false) := by show _ = _; unfold rmk; rw [decide_eq_false hc2, decide_eq_true hc3]; rfl
     have HT := hid_of (HOUT.out (by rw [hc]; rfl))
     rw [HRM.out] at HT
     clear HOUT HIN HRM
     rcases HBG.out with ⟨rfl, rfl⟩ | ⟨b, rfl, hb, rfl⟩
     ·go_wp2_with fail
      refine (HPA.out _).mono ?_
      rintro e w' ⟨rfl, rfl⟩
      rw [hg]
      go_wp2
      go_roundw
      case rel => exact ⟨p + n, f - 1, k + 1, a, false, -1, none, acc, by go_num, rfl, rfl, rfl, HSP.out, by omega, by omega, by omega, by omega, Or.inl ⟨rfl, rfl⟩, (by have h := HT.out; simp only [fin, List.append_nil] at h; exact h), HV2⟩
      case measure => rw [HPOS.out, HPO2.out]; omega
     ·go_wp2_with fail
      refine (HPA.out _).mono ?_
      rintro e w' ⟨rfl, rfl⟩
      rw [hg]
      go_wp2_with (first | (at_builtin; obtain ⟨hi0, hz0, hz1, hz2⟩ := HI.out; refine wpList_append_own _ rfl _ _ 168 rfl (w.heap.size + 1) 171 i0 (.agg #[.string ⟨#[]⟩, .int .i64 0]) 2 24 (by kernel_rfl) hi0 hz0 hz1 hz2 rfl (by decide) _ _ _ rfl (HSP.out.ow.alloc _) _ 1 1 [.string (s.extract b p), .int .i64 (a : Int)] rfl rfl (lit_cells _ #[.string (s.extract b p), .int .i64 (a : Int)] 171) (by intro u hu; simp at hu; rcases hu with rfl | rfl <;> rfl) (by unfold maxLen; omega) (by omega) (by have := HLT.out; simp; omega) ?_; intro v' w1 ho3 hgr _; obtain ⟨g', cap', rfl, hg1', hg2', hg3'⟩ := own_shape ho3 (by omega); have HGR := hid_of hgr; have HO3 := hid_of ho3; clear hgr ho3 hi0 hz0 hz1 hz2 hg1' hg2' hg3'))
      go_roundw
      case rel => exact ⟨p + n, f - 1, k + 1, a, false, -1, none, acc ++ [(s.extract b p, a)], by go_num, rfl, rfl, rfl, ⟨(HGR.out.block w.heap.size (by have := HLT.out; simp; omega) (fun e => by have := own_low2 HSP.out.ow e; omega)).trans (by rw [heap_alloc_lt _ _ _ HLT.out]; exact HSP.out.it), by rw [List.length_append, cells2_snoc]; exact HO3.out, (bal HSP.out.be _).grown HGR.out (by have := HLT.out; simp; omega) (own_low HSP.out.ow)⟩, by omega, by omega, by omega, by rw [List.length_append]; show _ + 1 ≤ _; omega, Or.inl ⟨rfl, rfl⟩, HT, HV2⟩
      case measure => rw [HPOS.out]; have hit := (HGR.out.block w.heap.size (by have := HLT.out; simp; omega) (fun e => by have := own_low2 HSP.out.ow e; omega)).trans ((heap_alloc_lt _ _ _ HLT.out).trans HSP.out.it); simp only [World.iterPos, hit]; omega
    ·have HRM : Hid (rmk true c = true) := by show _ = _; unfold rmk; rw [decide_eq_false hc2, decide_eq_true hc3]; rfl
     have HT := hid_of (HOUT.out (by rw [hc]; rfl))
     rw [HRM.out] at HT
     clear HOUT HIN HRM
     rcases HBG.out with ⟨rfl, rfl⟩ | ⟨b, rfl, hb, rfl⟩
     ·go_wp2
      go_roundw
      case rel => exact ⟨p + n, f - 1, k + 1, a, true, -1, none, acc, by go_num, rfl, rfl, rfl, HSP.out, by omega, by omega, by omega, by omega, Or.inl ⟨rfl, rfl⟩, (by have h := HT.out; simp only [fin, List.append_nil] at h; exact h), HV2⟩
      case measure => rw [HPOS.out, HPO2.out]; omega
     ·go_wp2_with (first | (at_builtin; obtain ⟨hi0, hz0, hz1, hz2⟩ := HI.out; refine wpList_append_own _ rfl _ _ 168 rfl (w.heap.size + 1) 171 i0 (.agg #[.string ⟨#[]⟩, .int .i64 0]) 2 24 (by kernel_rfl) hi0 hz0 hz1 hz2 rfl (by decide) _ _ _ rfl (HSP.out.ow.alloc _) _ 1 1 [.string (s.extract b p), .int .i64 (a : Int)] rfl rfl (lit_cells _ #[.string (s.extract b p), .int .i64 (a : Int)] 171) (by intro u hu; simp at hu; rcases hu with rfl | rfl <;> rfl) (by unfold maxLen; omega) (by omega) (by have := HLT.out; simp; omega) ?_; intro v' w1 ho3 hgr _; obtain ⟨g', cap', rfl, hg1', hg2', hg3'⟩ := own_shape ho3 (by omega); have HGR := hid_of hgr; have HO3 := hid_of ho3; clear hgr ho3 hi0 hz0 hz1 hz2 hg1' hg2' hg3'))
      go_roundw
      case rel => exact ⟨p + n, f - 1, k + 1, a, true, -1, none, acc ++ [(s.extract b p, a)], by go_num, rfl, rfl, rfl, ⟨(HGR.out.block w.heap.size (by have := HLT.out; simp; omega) (fun e => by have := own_low2 HSP.out.ow e; omega)).trans (by rw [heap_alloc_lt _ _ _ HLT.out]; exact HSP.out.it), by rw [List.length_append, cells2_snoc]; exact HO3.out, (bal HSP.out.be _).grown HGR.out (by have := HLT.out; simp; omega) (own_low HSP.out.ow)⟩, by omega, by omega, by omega, by rw [List.length_append]; show _ + 1 ≤ _; omega, Or.inl ⟨rfl, rfl⟩, HT, HV2⟩
      case measure => rw [HPOS.out]; have hit := (HGR.out.block w.heap.size (by have := HLT.out; simp; omega) (fun e => by have := own_low2 HSP.out.ow e; omega)).trans ((heap_alloc_lt _ _ _ HLT.out).trans HSP.out.it); simp only [World.iterPos, hit]; omega
   ·skip
    cases rm
    ·have HRM : Hid (rmk false c = false) := by show _ = _; unfold rmk; rw [decide_eq_false hc2, decide_eq_true hc3]; rfl
     have HT := hid_of (HIN.out (by rw [hc]; rfl))
     rw [HRM.out] at HT
     clear HOUT HIN HRM
     rcases HBG.out with ⟨rfl, rfl⟩ | ⟨b, rfl, hb, rfl⟩
     ·go_wp2_with fail
      refine (HPA.out _).mono ?_
      rintro e w' ⟨rfl, rfl⟩
      rw [hg]
      go_wp2
      go_roundw
      case rel => exact ⟨p + n, f - 1, k + 1, k, false, (p : Int), some (p, k), acc, by go_num, rfl, rfl, rfl, HSP.out, by omega, by omega, by omega, by omega, Or.inr ⟨p, rfl, by omega, rfl⟩, HT, HV2⟩
      case measure => rw [HPOS.out, HPO2.out]; omega
     ·go_wp2_with fail
      refine (HPA.out _).mono ?_
      rintro e w' ⟨rfl, rfl⟩
      rw [hg]
      go_wp2
      go_roundw
      case rel => exact ⟨p + n, f - 1, k + 1, a, false, (b : Int), some (b, a), acc, by go_num, rfl, rfl, rfl, HSP.out, by omega, by omega, by omega, by omega, Or.inr ⟨b, rfl, by omega, rfl⟩, HT, HV2⟩
      case measure => rw [HPOS.out, HPO2.out]; omega
    ·have HRM : Hid (rmk true c = true) := by show _ = _; unfold rmk; rw [decide_eq_false hc2, decide_eq_true hc3]; rfl
     have HT := hid_of (HOUT.out (by rw [hc]; rfl))
     rw [HRM.out] at HT
     clear HOUT HIN HRM
     rcases HBG.out with ⟨rfl, rfl⟩ | ⟨b, rfl, hb, rfl⟩
     ·go_wp2
      go_roundw
      case rel => exact ⟨p + n, f - 1, k + 1, a, true, -1, none, acc, by go_num, rfl, rfl, rfl, HSP.out, by omega, by omega, by omega, by omega, Or.inl ⟨rfl, rfl⟩, (by have h := HT.out; simp only [fin, List.append_nil] at h; exact h), HV2⟩
      case measure => rw [HPOS.out, HPO2.out]; omega
     ·go_wp2_with (first | (at_builtin; obtain ⟨hi0, hz0, hz1, hz2⟩ := HI.out; refine wpList_append_own _ rfl _ _ 168 rfl (w.heap.size + 1) 171 i0 (.agg #[.string ⟨#[]⟩, .int .i64 0]) 2 24 (by kernel_rfl) hi0 hz0 hz1 hz2 rfl (by decide) _ _ _ rfl (HSP.out.ow.alloc _) _ 1 1 [.string (s.extract b p), .int .i64 (a : Int)] rfl rfl (lit_cells _ #[.string (s.extract b p), .int .i64 (a : Int)] 171) (by intro u hu; simp at hu; rcases hu with rfl | rfl <;> rfl) (by unfold maxLen; omega) (by omega) (by have := HLT.out; simp; omega) ?_; intro v' w1 ho3 hgr _; obtain ⟨g', cap', rfl, hg1', hg2', hg3'⟩ := own_shape ho3 (by omega); have HGR := hid_of hgr; have HO3 := hid_of ho3; clear hgr ho3 hi0 hz0 hz1 hz2 hg1' hg2' hg3'))
      go_roundw
      case rel => exact ⟨p + n, f - 1, k + 1, a, true, -1, none, acc ++ [(s.extract b p, a)], by go_num, rfl, rfl, rfl, ⟨(HGR.out.block w.heap.size (by have := HLT.out; simp; omega) (fun e => by have := own_low2 HSP.out.ow e; omega)).trans (by rw [heap_alloc_lt _ _ _ HLT.out]; exact HSP.out.it), by rw [List.length_append, cells2_snoc]; exact HO3.out, (bal HSP.out.be _).grown HGR.out (by have := HLT.out; simp; omega) (own_low HSP.out.ow)⟩, by omega, by omega, by omega, by rw [List.length_append]; show _ + 1 ≤ _; omega, Or.inl ⟨rfl, rfl⟩, HT, HV2⟩
      case measure => rw [HPOS.out]; have hit := (HGR.out.block w.heap.size (by have := HLT.out; simp; omega) (fun e => by have := own_low2 HSP.out.ow e; omega)).trans ((heap_alloc_lt _ _ _ HLT.out).trans HSP.out.it); simp only [World.iterPos, hit]; omega
  ·have hnx : ∀ ty, (Instr.next (.pointer (some ⟨w.heap.size, 0, none⟩)) true ty).run Tryz.prog wr = _ := fun ty => run_next_end_at wr w.heap.size s p ty hsp.it hp
   have HE : Hid (acc ++ fin s p cur = spl s) := by show _ = _; rw [← HS.out, spl_end s f p k rm cur hp]
   have hpe : p = s.size := by omega
   rcases HBG.out with ⟨rfl, rfl⟩ | ⟨b, rfl, hb, rfl⟩
   ·have HE2 : Hid (acc = spl s) := by show _ = _; rw [← HE.out]; simp [fin]
    obtain ⟨v, hvv⟩ : ∃ v, v = u3 := ⟨_, rfl⟩
    go_wp2
    obtain ⟨ad, ln, cp, hsh⟩ := own_slice hsp.ow
    subst hsh
    go_ret
    refine ⟨_, rfl, ?_, hsp.be⟩
    rw [← HE2.out]
    exact own_mono hsp.ow (by omega)
   ·have HE2 : Hid (acc ++ [(s.extract b p, a)] = spl s) := HE.out
    have hsz := hsp.be.size
    have hlt := lt_of_block hsp.it
    have HLT := hid_of hlt
    have HSP := hid_of hsp
    clear hlt hsp
    subst hpe
    go_wp2_with (at_builtin; obtain ⟨hi0, hz0, hz1, hz2⟩ := HI.out; refine wpList_append_own _ rfl _ _ 168 rfl (w.heap.size + 1) 171 i0 (.agg #[.string ⟨#[]⟩, .int .i64 0]) 2 24 (by kernel_rfl) hi0 hz0 hz1 hz2 rfl (by decide) _ _ _ rfl (HSP.out.ow.alloc _) _ 1 1 [.string (s.extract b s.size), .int .i64 (a : Int)] rfl rfl (lit_cells _ #[.string (s.extract b s.size), .int .i64 (a : Int)] 171) (by intro u hu; simp at hu; rcases hu with rfl | rfl <;> rfl) (by unfold maxLen; omega) (by omega) (by have := HLT.out; simp; omega) ?_; intro v' w1 ho3 hgr _; obtain ⟨g', cap', rfl, hg1', hg2', hg3'⟩ := own_shape ho3 (by omega); have HGR := hid_of hgr; have HO3 := hid_of ho3; clear hgr ho3 hi0 hz0 hz1 hz2 hg1' hg2' hg3')
    go_ret
    refine ⟨_, rfl, ?_, (bal HSP.out.be _).grown HGR.out (by have := HLT.out; simp; omega) (own_low HSP.out.ow)⟩
    rw [← HE2.out, List.length_append, cells2_snoc]
    exact own_mono HO3.out (by omega)
end
section
open Go.RowKit Go.Lib
theorem own_low0 {w : World} {b e size n : Nat} {v : Value} {xs : List Value} (h : w.ownsRow b e size v n xs) : ∀ k, v.ownBlock = some k → b ≤ k := fun k hk => (h.lt k hk).1
def nwd (s : ByteArray) (cur : Option (Nat × Nat)) (a : Nat) (x : ByteArray) (p : Nat) : Prop := (x = ⟨#[]⟩ ∧ cur = none) ∨ ∃ b : Nat, x = s.extract b p ∧ b < p ∧ cur = some (b, a)
end
section
open Go.RowKit
structure Ri where
 i : It
 a : Nat
 p : Nat
def rit : List (ByteArray × Nat) → Nat → List Ri
 | [], _ => []
 | x :: r, p => ⟨itm x.1, x.2, p⟩ :: rit r (p + (itm x.1).cd.length)
def lkp (n : ByteArray) : List Ri → Option Nat
 | [] => none
 | y :: r => if y.i.k = 1 ∧ y.i.nm = n then some y.p else lkp n r
def flt (lb : ByteArray → Option Nat) (y : Ri) : Nat :=
 if y.i.fl ≠ 0 then y.i.fl else if y.i.k = 1 ∧ lb y.i.nm ≠ some y.p then 3 else if y.i.k = 2 ∧ lb y.i.nm = none then 3 else 0
def cwt (lb : ByteArray → Option Nat) (y : Ri) : List UInt8 :=
 if y.i.k = 2 then [97, UInt8.ofNat ((lb y.i.nm).getD 0 / 256), UInt8.ofNat ((lb y.i.nm).getD 0 % 256)] else y.i.cd
def rn2 (lb : ByteArray → Option Nat) : List Ri → List UInt8 → List UInt8 ⊕ (Nat × Nat)
 | [], c => .inl c
 | y :: r, c => if flt lb y = 0 then rn2 lb r (c ++ cwt lb y) else .inr (flt lb y, y.a)
def rlist (s : ByteArray) : List Ri := rit (spl s) 0
def labs (s : ByteArray) (n : ByteArray) : Option Nat := lkp n (rlist s)
def asm (s : ByteArray) : ByteArray × Nat × Nat :=
 if 2000 < s.size then (⟨#[]⟩, 2, 0)
 else if (cnt s).2 = false then (⟨#[]⟩, 2, (cnt s).1)
 else match rn2 (labs s) (rlist s) [] with
  | .inr (e, a) => (⟨#[]⟩, e, a)
  | .inl c => if 1000 < c.length then (⟨#[]⟩, 4, (cnt s).1) else (⟨c.toArray⟩, 0, 0)
def asmV (s : ByteArray) : Value := .tuple #[.string (asm s).1, .int .i64 ((asm s).2.1 : Int), .int .i64 ((asm s).2.2 : Int)]
theorem rit_len (l : List (ByteArray × Nat)) : ∀ p, (rit l p).length = l.length := by
 induction l with
 | nil => intro p; rfl
 | cons x r ih => intro p; simp [rit, ih]
theorem itm_len (s : ByteArray) : (itm s).cd.length ≤ 33 := by
 unfold itm
 split
 ·simp
 ·split
  ·simp
  ·unfold itN
   split
   ·simp
   ·split
    ·simp
    ·split
     ·simp
     ·exact pcode_len _
end
section
open Go.RowKit Go.Lib
def cells6 (l : List (Ri × Value)) : List Value := l.flatMap fun y => [.int .i64 (y.1.i.k : Int), .string y.1.i.nm, y.2, .int .i64 (y.1.i.fl : Int), .int .i64 (y.1.a : Int), .int .i64 (y.1.p : Int)]
theorem cells6_snoc (l : List (Ri × Value)) (y : Ri) (v : Value) : cells6 (l ++ [(y, v)]) = cells6 l ++ [.int .i64 (y.i.k : Int), .string y.i.nm, v, .int .i64 (y.i.fl : Int), .int .i64 (y.a : Int), .int .i64 (y.p : Int)] := by
 unfold cells6
 rw [List.flatMap_append]
 rfl
theorem cells6_at (l : List (Ri × Value)) (i : Nat) (h : i < l.length) : (cells6 l)[i * 6]? = some (.int .i64 ((l[i]).1.i.k : Int)) ∧ (cells6 l)[i * 6 + 1]? = some (.string (l[i]).1.i.nm) ∧ (cells6 l)[i * 6 + 2]? = some (l[i]).2 ∧ (cells6 l)[i * 6 + 3]? = some (.int .i64 ((l[i]).1.i.fl : Int)) ∧ (cells6 l)[i * 6 + 4]? = some (.int .i64 ((l[i]).1.a : Int)) ∧ (cells6 l)[i * 6 + 5]? = some (.int .i64 ((l[i]).1.p : Int)) := by
 induction l generalizing i with
 | nil => exact absurd h (Nat.not_lt_zero _)
 | cons x r ih =>
  have e : cells6 (x :: r) = .int .i64 (x.1.i.k : Int) :: .string x.1.i.nm :: x.2 :: .int .i64 (x.1.i.fl : Int) :: .int .i64 (x.1.a : Int) :: .int .i64 (x.1.p : Int) :: cells6 r := by unfold cells6; rw [List.flatMap_cons]; rfl
  rw [e]
  cases i with
  | zero => exact ⟨rfl, rfl, rfl, rfl, rfl, rfl⟩
  | succ i =>
   have h2 := ih i (by simpa using h)
   rw [show (i + 1) * 6 = i * 6 + 6 by omega]
   exact h2
def two (a b : Value) : Nat → Value := fun i => if i = 0 then a else b
theorem row_lit2 {w : World} {n : Nat} {t : TypeId} (a b : Value) (hn : n = w.heap.size) : (w.alloc (.cells #[a, b] t)).rowIs n t 2 (two a b) := by
 subst hn
 refine World.rowIs_alloc w _ t _ fun i hi => ?_
 rcases (by simp at hi; omega : i = 0 ∨ i = 1) with rfl | rfl <;> rfl
structure IR (base : Nat) (acc : List (Ri × Value)) (t : Value) (x : World) : Prop where
 ow : x.ownsRow base 122 6 t acc.length (cells6 acc)
 cd : ∀ y ∈ acc, Bys x base y.2 y.1.i.cd
theorem IR.call {base : Nat} {acc : List (Ri × Value)} {t : Value} {x y : World} (h : IR base acc t x) (hb : Below x.heap.size x y) : IR base acc t y :=
 ⟨ownsRow_below h.ow hb, fun z hz => ownsRow_below (h.cd z hz) hb⟩
theorem own_sl {w : World} {b e size n : Nat} {v : Value} {xs : List Value} (h : w.ownsRow b e size v n xs) : ∃ (ad : Option Addr) (cp : Nat), v = .slice ad n cp := by
 rcases h.2 with ⟨hv, h0⟩ | ⟨g, cap, cur, hv, _⟩
 ·subst h0; exact ⟨_, _, hv⟩
 ·exact ⟨_, _, hv⟩
theorem own_ne {w : World} {b e size n b' e' size' n' : Nat} {v v' : Value} {xs xs' : List Value} (h : w.ownsRow b e size v n xs) (h' : w.ownsRow b' e' size' v' n' xs') (hne : e ≠ e') : v.ownBlock = none ∨ v.ownBlock ≠ v'.ownBlock := by
 rcases h.2 with ⟨rfl, _⟩ | ⟨g, cap, cur, rfl, _, h1, _⟩
 ·exact Or.inl rfl
 ·rcases h'.2 with ⟨rfl, _⟩ | ⟨g', cap', cur', rfl, _, h1', _⟩
  ·exact Or.inr (by simp [Value.ownBlock])
  ·refine Or.inr fun e1 => hne ?_
   have e2 : g = g' := by simpa [Value.ownBlock] using e1
   subst e2
   rw [h1] at h1'
   injection h1' with h2
   injection h2
theorem IR.grow {base : Nat} {acc : List (Ri × Value)} {t t' : Value} {x z : World} {y : Ri} {v : Value} (h : IR base acc t x) (hg : x.grownBy z t.ownBlock) (hv : Bys x base v y.i.cd)
  (ho : z.ownsRow base 122 6 t' (acc.length + 1) (cells6 acc ++ [.int .i64 (y.i.k : Int), .string y.i.nm, v, .int .i64 (y.i.fl : Int), .int .i64 (y.a : Int), .int .i64 (y.p : Int)])) : IR base (acc ++ [(y, v)]) t' z := by
 refine ⟨by rw [cells6_snoc, List.length_append]; exact ho, fun q hq => ?_⟩
 rcases List.mem_append.1 hq with hq | hq
 ·exact World.ownsRow.kept (h.cd q hq) hg (own_ne (h.cd q hq) h.ow (by decide))
 ·have e : q = (y, v) := List.mem_singleton.1 hq
  subst e
  exact World.ownsRow.kept hv hg (own_ne hv h.ow (by decide))
theorem rit_step {acc : List (Ri × Value)} {L : List (ByteArray × Nat)} {j pl : Nat} {R : List Ri} {x : ByteArray × Nat} {it : It} (v : Value) (hj : j < L.length) (hx : x = L[j]) (hi : it = itm x.1) (h : acc.map Prod.fst ++ rit (L.drop j) pl = R) :
  (acc ++ [((⟨it, x.2, pl⟩ : Ri), v)]).map Prod.fst ++ rit (L.drop (j + 1)) (pl + it.cd.length) = R := by
 rw [List.drop_eq_getElem_cons hj, ← hx, rit, ← hi] at h
 rw [List.map_append, List.append_assoc]
 exact h
theorem info_it : (Tryz.prog.info? 122).map (fun i => (i.zero, i.size, i.bytes)) = some (some (.agg #[.int .i64 0, .string ⟨#[]⟩, .slice none 0 0, .int .i64 0, .int .i64 0, .int .i64 0]), 6, 72) := by kernel_rfl
def ItemsRead (s : ByteArray) (w : World) (e : Ending) (w' : World) : Prop := ∃ (v : Value) (l : List (Ri × Value)), e = .returned v ∧ IR w.heap.size l v w' ∧ l.map Prod.fst = rlist s ∧ Below w.heap.size w w'
set_option maxRecDepth 100000 in
set_option maxHeartbeats 8000000 in
theorem readItems_any (s : ByteArray) (hs : s.size ≤ 2000) (hv : Hid (Whole s)) (w : World) : Calls Tryz.prog 51 #[.string s] w fun e w' => ItemsRead s w e w' := by
 obtain ⟨i0, hi0, hz0, hz1, hz2⟩ := info_parts info_it
 have HI := hid_of (And.intro hi0 (And.intro hz0 (And.intro hz1 hz2)))
 clear hi0 hz0 hz1 hz2
 have HSP := hid_of (split_any s hs hv)
 have HL : Hid ((spl s).length ≤ 2001) := Nat.le_trans (spl_len s) (by omega)
 have HFT := hid_of (spl_fit hv.out)
 have HRL : Hid (rlist s = rit (spl s) 0) := rfl
 go_enter Tryz.func51, Tryz.ntmps51
 go_wp2_with fail
 refine (HSP.out _).mono ?_
 rintro e w1 ⟨v, rfl, hps, hbe1⟩
 obtain ⟨L, HLL⟩ : ∃ L, Hid (L = spl s) := ⟨_, rfl⟩
 rw [← HLL.out] at hps HL HFT HRL
 clear HSP HLL
 have HB1 := hid_of hbe1
 have HPS := hid_of hps
 have hL := HL.out
 rcases hps.2 with ⟨rfl, hn⟩ | ⟨g, cap, cur, rfl, _⟩
 ·have HE : Hid (([] : List (Ri × Value)).map Prod.fst = rlist s) := by show _ = _; rw [HRL.out, List.length_eq_zero_iff.1 hn]; rfl
  clear hps hbe1
  go_wp2
  go_loopw [3, 4, 11] (fun t3 t4 t11 wr => t3 = .slice none 0 0 ∧ t11 = .int .i64 0 ∧ Hid (wr = w1)) (fun _ _ _ _ => 0)
  case atStart => exact ⟨rfl, rfl, rfl⟩
  case round =>
   obtain ⟨rfl, rfl, HW⟩ := hrel
   go_wp2
   go_ret
   exact ⟨_, [], rfl, ⟨World.ownsRow_nil _ _ _ _, fun y hy => by cases hy⟩, HE.out, by rw [HW.out]; exact HB1.out⟩
 ·clear hps hbe1
  go_wp2
  go_loopw [3, 4, 11] (fun t3 t4 t11 wr => ∃ (j pl : Nat) (acc : List (Ri × Value)), t11 = .int .i64 (j : Int) ∧ t4 = .int .i64 (pl : Int) ∧ IR w1.heap.size acc t3 wr ∧ Below w1.heap.size w1 wr ∧ acc.length = j ∧ j ≤ L.length ∧ pl ≤ 33 * j ∧ Hid (acc.map Prod.fst ++ rit (L.drop j) pl = rlist s)) (fun _ _ t11 _ => L.length - (intOf t11).toNat)
  case atStart => exact ⟨0, 0, [], rfl, rfl, ⟨World.ownsRow_nil _ _ _ _, fun y hy => by cases hy⟩, Below.refl _ _, rfl, by omega, by omega, HRL.out.symm⟩
  case round =>
   obtain ⟨j, pl, acc, rfl, rfl, hir, hbe, hac, hj, hpl, HR⟩ := hrel
   by_cases hlt : j < L.length
   ·have hps2 := ownsRow_below HPS.out hbe
    have hc1 := (hps2.cellAt (j * 2) (by omega)).trans (cells2_at L j hlt).1
    have hc2 := (hps2.cellAt (j * 2 + 1) (by omega)).trans (cells2_at L j hlt).2
    obtain ⟨f1, f2, f3, f4⟩ := HFT.out (L[j]) (List.getElem_mem hlt)
    have HRI := hid_of (readItem_any (L[j]).1 (Nat.le_trans f3 hs) f1 f2)
    obtain ⟨x, HX⟩ : ∃ x : ByteArray × Nat, Hid (x = L[j]) := ⟨L[j], hid_of rfl⟩
    rw [← HX.out] at hc1 hc2 HRI
    clear hps2 f1 f2 f3 f4
    have HIR := hid_of hir
    have HBE := hid_of hbe
    clear hir hbe
    go_wp2_with fail
    refine (HRI.out _).mono ?_
    rintro e w2 ⟨vc, rfl, hby, hb2⟩
    obtain ⟨it, HIT⟩ : ∃ it, Hid (it = itm x.1) := ⟨_, rfl⟩
    rw [← HIT.out] at hby ⊢
    have hcdl : it.cd.length ≤ 33 := by rw [HIT.out]; exact itm_len _
    have hat : (w2.alloc (.cells #[.int .i64 (it.k : Int), .string it.nm, vc, .int .i64 (it.fl : Int), .int .i64 0, .int .i64 0] 122)).cell? ⟨wr.heap.size, 1, none⟩ = some (.int .i64 (x.2 : Int)) := by
     have hr : (wr.alloc (.cells #[.string x.1, .int .i64 (x.2 : Int)] 171)).rowIs wr.heap.size 171 2 (two (.string x.1) (.int .i64 (x.2 : Int))) := row_lit2 _ _ rfl
     exact ((row_below hr hb2).alloc _).cell (i := 1) (by omega)
    have HB2 := hid_of hb2
    have HBY := hid_of hby
    obtain ⟨ad, cp, hsh⟩ := own_sl hby
    subst hsh
    clear hb2 hby
    unfold itV
    go_upto_region 9 with fail
    obtain ⟨w3, HW3⟩ : ∃ w3, Hid (w3 = w2.alloc (.cells #[.int .i64 (it.k : Int), .string it.nm, .slice ad it.cd.length cp, .int .i64 (it.fl : Int), .int .i64 (x.2 : Int), .int .i64 (pl : Int)] 122)) := ⟨_, rfl⟩
    have hbx : Below wr.heap.size wr w3 := by rw [HW3.out]; exact bal (bcall (bal (Below.refl _ _) _) HB2.out) _
    have HIR3 := hid_of (HIR.out.call hbx)
    have HBE3 := hid_of (bcall HBE.out hbx)
    have hrow : w3.rowIs w2.heap.size 122 6 (six (.int .i64 (it.k : Int)) (.string it.nm) (.slice ad it.cd.length cp) (.int .i64 (it.fl : Int)) (.int .i64 (x.2 : Int)) (.int .i64 (pl : Int))) := by rw [HW3.out]; exact row_lit6 _ _ _ _ _ _ rfl
    have HBY3 : Hid (Bys w3 w1.heap.size (.slice ad it.cd.length cp) it.cd) := by show Bys _ _ _ _; rw [HW3.out]; exact (HBY.out.alloc _).mono (by have := HBE.out.size; simp; omega)
    have HLT : Hid (w2.heap.size < w3.heap.size ∧ wr.heap.size ≤ w2.heap.size) := ⟨hrow.lt, by have := HB2.out.size; simp at this; omega⟩
    have HOB : Hid (∀ k, u3.ownBlock = some k → k < wr.heap.size) := fun k hk => (HIR.out.ow.lt k hk).2
    rw [← HW3.out]
    obtain ⟨c0, c1, c2, c3, c4, c5⟩ := row_cells6 hrow
    have HROW := hid_of hrow
    clear hrow HW3 hat HBE HB2 HBY HIR hbx
    go_wp2_with (at_builtin; obtain ⟨hi0, hz0, hz1, hz2⟩ := HI.out; refine wpList_append_own _ rfl _ _ 116 rfl w1.heap.size 122 i0 (.agg #[.int .i64 0, .string ⟨#[]⟩, .slice none 0 0, .int .i64 0, .int .i64 0, .int .i64 0]) 6 72 (by kernel_rfl) hi0 hz0 hz1 hz2 rfl (by decide) _ _ _ rfl (HIR3.out.ow.alloc _) _ 1 1 [.int .i64 (it.k : Int), .string it.nm, .slice ad it.cd.length cp, .int .i64 (it.fl : Int), .int .i64 (x.2 : Int), .int .i64 (pl : Int)] rfl rfl (lit_cells _ #[.int .i64 (it.k : Int), .string it.nm, .slice ad it.cd.length cp, .int .i64 (it.fl : Int), .int .i64 (x.2 : Int), .int .i64 (pl : Int)] 122) (by intro u hu; simp at hu; rcases hu with rfl | rfl | rfl | rfl | rfl | rfl <;> rfl) (by unfold maxLen; omega) (by omega) (by have := HBE3.out.size; simp; omega) ?_; intro v' w4 ho3 hgr _; obtain ⟨g', cap', rfl, hg1', hg2', hg3'⟩ := own_shape ho3 (by omega); have hro2 := (HROW.out.alloc (.cells #[.int .i64 (it.k : Int), .string it.nm, .slice ad it.cd.length cp, .int .i64 (it.fl : Int), .int .i64 (x.2 : Int), .int .i64 (pl : Int)] 122)).of_block (hgr.block w2.heap.size (by have := HLT.out.1; simp; omega) (fun e => by have := HOB.out _ e.symm; have := HLT.out.2; omega)); obtain ⟨q0, q1, q2, q3, q4, q5⟩ := row_cells6 hro2; have HGR := hid_of hgr; have HO3 := hid_of ho3; clear hgr ho3 hi0 hz0 hz1 hz2 hg1' hg2' hg3' hro2 c0 c1 c2 c3 c4 c5)
    go_roundw
    case rel => exact ⟨j + 1, pl + it.cd.length, acc ++ [((⟨it, x.2, pl⟩ : Ri), .slice ad it.cd.length cp)], by go_num, by go_num, (by have h := IR.grow (y := ⟨it, x.2, pl⟩) (HIR3.out.call (bal (Below.refl _ _) _)) HGR.out (HBY3.out.alloc _) HO3.out; rw [hac] at h; exact h), (bal HBE3.out _).grown HGR.out (by have := HBE3.out.size; simp; omega) (own_low0 HIR3.out.ow), by rw [List.length_append]; show _ + 1 = _; omega, by omega, by omega, rit_step _ hlt HX.out HIT.out HR.out⟩
    case measure => simp [intOf]; omega
   ·have HE : Hid (acc.map Prod.fst = rlist s) := by show _ = _; rw [← HR.out, List.drop_of_length_le (by omega), rit, List.append_nil]
    obtain ⟨ad, cp, hsh⟩ := own_sl hir.ow
    subst hsh
    go_wp2
    go_ret
    exact ⟨_, acc, rfl, ⟨own_mono hir.ow HB1.out.size, fun y hy => (hir.cd y hy).mono HB1.out.size⟩, HE.out, bcall HB1.out hbe⟩
end
end cin
end Go.Proofs.YtohoajjdoihekaaGreatDoor
