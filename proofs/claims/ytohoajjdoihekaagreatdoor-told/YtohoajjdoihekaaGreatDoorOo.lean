import Derived.Test.YtohoajjdoihekaaGreatDoorLx
import Derived.ProofKit
import Derived.OpenShut
import Derived.ChangeOld
import Derived.Below
import Derived.Laws.IdiomArrays
set_option linter.unusedVariables false
set_option linter.unusedSimpArgs false
namespace Go.Proofs.YtohoajjdoihekaaGreatDoor
namespace cin
section
open Go.RowKit Go.Maps
set_option maxHeartbeats 8000000
set_option maxRecDepth 100000
theorem own_calc : Own 14 := fun _ _ => by kernel_rfl
theorem own_bytesOf : Own 15 := fun _ _ => by kernel_rfl
theorem ltq25 {i : Nat} (h : i < 25) : i = 0 ∨ i = 1 ∨ i = 2 ∨ i = 3 ∨ i = 4 ∨ i = 5 ∨ i = 6 ∨ i = 7 ∨ i = 8 ∨ i = 9 ∨ i = 10 ∨ i = 11 ∨ i = 12 ∨ i = 13 ∨ i = 14 ∨ i = 15 ∨ i = 16 ∨ i = 17 ∨ i = 18 ∨ i = 19 ∨ i = 20 ∨ i = 21 ∨ i = 22 ∨ i = 23 ∨ i = 24 := by omega
theorem lenq25 {vs : List Value} (h : vs.length = 25) : ∃ v0 v1 v2 v3 v4 v5 v6 v7 v8 v9 v10 v11 v12 v13 v14 v15 v16 v17 v18 v19 v20 v21 v22 v23 v24, vs = [v0, v1, v2, v3, v4, v5, v6, v7, v8, v9, v10, v11, v12, v13, v14, v15, v16, v17, v18, v19, v20, v21, v22, v23, v24] := by
 match vs, h with
 | [v0, v1, v2, v3, v4, v5, v6, v7, v8, v9, v10, v11, v12, v13, v14, v15, v16, v17, v18, v19, v20, v21, v22, v23, v24], _ => exact ⟨_, _, _, _, _, _, _, _, _, _, _, _, _, _, _, _, _, _, _, _, _, _, _, _, _, rfl⟩
def Bx16 (w : World) (r : Nat) : Kp := fun p v x => ∃ g, v = .pointer (some ⟨g, 0, none⟩) ∧ w.heap.size ≤ g ∧ (p ≤ 1 → ∃ f, x.rowIs g 24 4 f) ∧ (p = 2 → wrow x g r)
def Rl16 (r : Nat) : Nat → Act → World → World → Prop := fun p s x x' => if p = 0 then Below x.heap.size x x' else ∃ g, s.tmps.getD 16 undef = .pointer (some ⟨g, 0, none⟩) ∧ wrow x' g r
theorem bx16_next {w x x' : World} {r p : Nat} {s : Act} (hp : p < 2) (h : Rl16 r p s x x') (ht : Bx16 w r p (s.tmps.getD 16 undef) x) : Bx16 w r (p + 1) (s.tmps.getD 16 undef) x' := by
 obtain ⟨g, e, h1, h2, h3⟩ := ht
 unfold Rl16 at h
 by_cases h0 : p = 0
 ·rw [if_pos h0] at h
  obtain ⟨f, hf⟩ := h2 (by omega)
  exact ⟨g, e, h1, fun _ => ⟨f, row_below hf h⟩, fun h9 => by omega⟩
 ·rw [if_neg h0] at h
  obtain ⟨g', e', h'⟩ := h
  have e2 : g' = g := by
   have := e'.symm.trans e
   injection this with this
   injection this with this
   injection this
  subst e2
  exact ⟨g', e, h1, fun h9 => by omega, fun _ => h'⟩
theorem bx16_below {w x x' : World} {r p : Nat} {v : Value} (hb : Below x.heap.size x x') (ht : Bx16 w r p v x) : Bx16 w r p v x' := by
 obtain ⟨g, e, h1, h2, h3⟩ := ht
 exact ⟨g, e, h1, fun h => (h2 h).elim fun f hf => ⟨f, row_below hf hb⟩, fun h => row_below (h3 h) hb⟩
section
variable {ba bb bc bo na nb' nc kk op r : Nat} {s : Act} {x : World} {K : Act → World → Prop} {Q : Exit → Act → World → Prop} {ty1 : TypeId} {po1 : String} {af1 : Array Edge} {gd1 : Option (Nat × Bool)}
theorem told_r12_o0 (e10 : s.tmps.getD 10 undef = .slice (some ⟨bo, 0, none⟩) 25 25)  (hK : K (s.put (some 66) (.slice (some ⟨bo, 0, none⟩) 25 25)) x) :
  Oper.wp Tryz.prog ⟨some 66, .move (.tmp 10), ty1, po1, af1, gd1⟩ s x K Q := by
 have f10 : s.eval (.tmp 10) = _ := e10
 go_simp
 exact hK
theorem told_r12_o1 (e3 : s.tmps.getD 3 undef = .int .i64 (kk : Int))  (hK : K (s.put (some 67) (.int .i64 (kk : Int))) x) :
  Oper.wp Tryz.prog ⟨some 67, .move (.tmp 3), ty1, po1, af1, gd1⟩ s x K Q := by
 have f3 : s.eval (.tmp 3) = _ := e3
 go_simp
 exact hK
theorem told_r12_o2 (e66 : s.tmps.getD 66 undef = .slice (some ⟨bo, 0, none⟩) 25 25) (e67 : s.tmps.getD 67 undef = .int .i64 (kk : Int)) (hk0 : (kk : Int) < 25) (hK : K (s.put (some 68) (.pointer (some ⟨bo, kk, none⟩))) x) :
  Oper.wp Tryz.prog ⟨some 68, .indexAddr 26 (.tmp 66) (.tmp 67), ty1, po1, af1, gd1⟩ s x K Q := by
 have f66 : s.eval (.tmp 66) = _ := e66
 have f67 : s.eval (.tmp 67) = _ := e67
 go_simp
 exact hK
theorem told_r12_o3 (e68 : s.tmps.getD 68 undef = .pointer (some ⟨bo, kk, none⟩)) (k0 : x.cell? ⟨bo, kk, none⟩ = some (.int .u8 (op : Int))) (hK : K (s.put (some 69) (.int .u8 (op : Int))) x) :
  Oper.wp Tryz.prog ⟨some 69, .load 5 (.tmp 68), ty1, po1, af1, gd1⟩ s x K Q := by
 have f68 : s.eval (.tmp 68) = _ := e68
 go_simp
 exact hK
theorem told_r12_o4 (e4 : s.tmps.getD 4 undef = .pointer (some ⟨ba, 0, none⟩)) (y0 : x.cell? ⟨ba, 0, none⟩ = some (.int .u64 (limb na 0))) (y1 : x.cell? ⟨ba, 1, none⟩ = some (.int .u64 (limb na 1))) (y2 : x.cell? ⟨ba, 2, none⟩ = some (.int .u64 (limb na 2))) (y3 : x.cell? ⟨ba, 3, none⟩ = some (.int .u64 (limb na 3))) (hK : K (s.put (some 70) (.agg #[.int .u64 (limb na 0), .int .u64 (limb na 1), .int .u64 (limb na 2), .int .u64 (limb na 3)])) x) :
  Oper.wp Tryz.prog ⟨some 70, .load 24 (.tmp 4), ty1, po1, af1, gd1⟩ s x K Q := by
 have f4 : s.eval (.tmp 4) = _ := e4
 go_simp
 exact hK
theorem told_r12_o5 (e5 : s.tmps.getD 5 undef = .pointer (some ⟨bb, 0, none⟩)) (y0 : x.cell? ⟨bb, 0, none⟩ = some (.int .u64 (limb nb' 0))) (y1 : x.cell? ⟨bb, 1, none⟩ = some (.int .u64 (limb nb' 1))) (y2 : x.cell? ⟨bb, 2, none⟩ = some (.int .u64 (limb nb' 2))) (y3 : x.cell? ⟨bb, 3, none⟩ = some (.int .u64 (limb nb' 3))) (hK : K (s.put (some 71) (.agg #[.int .u64 (limb nb' 0), .int .u64 (limb nb' 1), .int .u64 (limb nb' 2), .int .u64 (limb nb' 3)])) x) :
  Oper.wp Tryz.prog ⟨some 71, .load 24 (.tmp 5), ty1, po1, af1, gd1⟩ s x K Q := by
 have f5 : s.eval (.tmp 5) = _ := e5
 go_simp
 exact hK
theorem told_r12_o6 (e6 : s.tmps.getD 6 undef = .pointer (some ⟨bc, 0, none⟩)) (y0 : x.cell? ⟨bc, 0, none⟩ = some (.int .u64 (limb nc 0))) (y1 : x.cell? ⟨bc, 1, none⟩ = some (.int .u64 (limb nc 1))) (y2 : x.cell? ⟨bc, 2, none⟩ = some (.int .u64 (limb nc 2))) (y3 : x.cell? ⟨bc, 3, none⟩ = some (.int .u64 (limb nc 3))) (hK : K (s.put (some 72) (.agg #[.int .u64 (limb nc 0), .int .u64 (limb nc 1), .int .u64 (limb nc 2), .int .u64 (limb nc 3)])) x) :
  Oper.wp Tryz.prog ⟨some 72, .load 24 (.tmp 6), ty1, po1, af1, gd1⟩ s x K Q := by
 have f6 : s.eval (.tmp 6) = _ := e6
 go_simp
 exact hK
theorem told_r12 {ba bb bc bo na nb' nc kk op r : Nat} {Q : Exit → Act → World → Prop} (a : Act) (w : World) (ra : wrow w ba na) (rb : wrow w bb nb') (rc : wrow w bc nc) (hk25 : kk < 25) (hbo : bo < w.heap.size) (hop : w.cell? ⟨bo, kk, none⟩ = some (.int .u8 (op : Int))) (hcl : ∀ x, Calls Tryz.prog 14 #[.int .u8 (op : Int), wv na, wv nb', wv nc] x (Ret x r)) (h0 : Below w.heap.size w w.drew) (hsz : decide (73 < a.tmps.size) = true) (c3 : a.tmps.getD 3 undef = .int .i64 (kk : Int)) (c4 : a.tmps.getD 4 undef = .pointer (some ⟨ba, 0, none⟩)) (c5 : a.tmps.getD 5 undef = .pointer (some ⟨bb, 0, none⟩)) (c6 : a.tmps.getD 6 undef = .pointer (some ⟨bc, 0, none⟩)) (c10 : a.tmps.getD 10 undef = .slice (some ⟨bo, 0, none⟩) 25 25)
  (hok : ∀ (x : World) (z8 : Value), (PhT w) 2 x → (Bx16 w r) 2 z8 x → Q .normal (fill a [(66, .slice (some ⟨bo, 0, none⟩) 25 25), (67, .int .i64 (kk : Int)), (68, .pointer (some ⟨bo, kk, none⟩)), (69, .int .u8 (op : Int)), (70, .agg #[.int .u64 (limb na 0), .int .u64 (limb na 1), .int .u64 (limb na 2), .int .u64 (limb na 3)]), (71, .agg #[.int .u64 (limb nb' 0), .int .u64 (limb nb' 1), .int .u64 (limb nb' 2), .int .u64 (limb nb' 3)]), (72, .agg #[.int .u64 (limb nc 0), .int .u64 (limb nc 1), .int .u64 (limb nc 2), .int .u64 (limb nc 3)]), (73, wv r), (16, z8)]) x) :
  (Code.region 12 #[⟨some 66, .move (.tmp 10), 26, "keeps.go:127", #[], none⟩, ⟨some 67, .move (.tmp 3), 3, "keeps.go:127", #[], none⟩, ⟨some 68, .indexAddr 26 (.tmp 66) (.tmp 67), 0, "keeps.go:127", #[⟨0, .data⟩, ⟨1, .data⟩], none⟩, ⟨some 69, .load 5 (.tmp 68), 5, "keeps.go:127", #[⟨2, .data⟩], none⟩, ⟨some 70, .load 24 (.tmp 4), 24, "keeps.go:127", #[], none⟩, ⟨some 71, .load 24 (.tmp 5), 24, "keeps.go:127", #[], none⟩, ⟨some 72, .load 24 (.tmp 6), 24, "keeps.go:127", #[], none⟩, ⟨some 73, .call ⟨.value (.func 14), #[.tmp 69, .tmp 70, .tmp 71, .tmp 72], #[5, 24, 24, 24]⟩, 24, "keeps.go:127", #[⟨3, .data⟩, ⟨4, .data⟩, ⟨5, .data⟩, ⟨6, .data⟩], none⟩, ⟨some 16, .alloc 24, 0, "keeps.go:127", #[], none⟩, ⟨none, .store 24 (.tmp 16) (.tmp 73), 0, "keeps.go:127", #[⟨8, .data⟩, ⟨7, .data⟩, ⟨7, .chain⟩, ⟨0, .phase⟩, ⟨1, .phase⟩, ⟨2, .phase⟩, ⟨3, .phase⟩, ⟨4, .phase⟩, ⟨5, .phase⟩, ⟨6, .phase⟩, ⟨7, .phase⟩, ⟨8, .phase⟩], none⟩] true).wp Tryz.prog Q a w := by
 have hsz := of_decide_eq_true hsz
 refine wp_region_pa (by kernel_rfl) (by kernel_rfl) (PhT w) (Rl16 r) [(some 66, Cp (.slice (some ⟨bo, 0, none⟩) 25 25)), (some 67, Cp (.int .i64 (kk : Int))), (some 68, Cp (.pointer (some ⟨bo, kk, none⟩))), (some 69, Cp (.int .u8 (op : Int))), (some 70, Cp (.agg #[.int .u64 (limb na 0), .int .u64 (limb na 1), .int .u64 (limb na 2), .int .u64 (limb na 3)])), (some 71, Cp (.agg #[.int .u64 (limb nb' 0), .int .u64 (limb nb' 1), .int .u64 (limb nb' 2), .int .u64 (limb nb' 3)])), (some 72, Cp (.agg #[.int .u64 (limb nc 0), .int .u64 (limb nc 1), .int .u64 (limb nc 2), .int .u64 (limb nc 3)])), (some 73, Cp (wv r)), (some 16, Bx16 w r), (none, fun _ _ _ => True)] [7, 9] rfl (by rfl) ?_ ?_ [(3, .int .i64 (kk : Int)), (4, .pointer (some ⟨ba, 0, none⟩)), (5, .pointer (some ⟨bb, 0, none⟩)), (6, .pointer (some ⟨bc, 0, none⟩)), (10, .slice (some ⟨bo, 0, none⟩) 25 25)] ?_ (by rfl) (by kernel_rfl) (by rfl) (by rfl) ?_ ?_ ?_ ?_ ?_
 ·refine List.all_eq_true.2 fun d hd => decide_eq_true ?_
  have hd2 : d ∈ ([66, 67, 68, 69, 70, 71, 72, 73, 16] : List Nat) := hd
  simp at hd2
  omega
 ·exact h0
 ·intro p hp
  simp only [List.mem_cons, List.not_mem_nil, or_false] at hp
  rcases hp with rfl | rfl | rfl | rfl | rfl
  ·exact c3
  ·exact c4
  ·exact c5
  ·exact c6
  ·exact c10
 ·intro j d T hj p s x x' hne hpl hph hrel ht
  have hjl : j < 10 := (List.getElem?_eq_some_iff.1 hj).1
  rcases ltq10 hjl with rfl | rfl | rfl | rfl | rfl | rfl | rfl | rfl | rfl | rfl
  ·obtain ⟨rfl, rfl⟩ := pk hj
   exact ht
  ·obtain ⟨rfl, rfl⟩ := pk hj
   exact ht
  ·obtain ⟨rfl, rfl⟩ := pk hj
   exact ht
  ·obtain ⟨rfl, rfl⟩ := pk hj
   exact ht
  ·obtain ⟨rfl, rfl⟩ := pk hj
   exact ht
  ·obtain ⟨rfl, rfl⟩ := pk hj
   exact ht
  ·obtain ⟨rfl, rfl⟩ := pk hj
   exact ht
  ·obtain ⟨rfl, rfl⟩ := pk hj
   exact ht
  ·obtain ⟨rfl, rfl⟩ := pk hj
   exact bx16_next hpl hrel ht
  ·obtain ⟨rfl, rfl⟩ := pk hj
   exact ht
 ·intro j d T hj p v x x' hph hbe ht
  have hjl : j < 10 := (List.getElem?_eq_some_iff.1 hj).1
  rcases ltq10 hjl with rfl | rfl | rfl | rfl | rfl | rfl | rfl | rfl | rfl | rfl
  ·obtain ⟨rfl, rfl⟩ := pk hj
   exact ht
  ·obtain ⟨rfl, rfl⟩ := pk hj
   exact ht
  ·obtain ⟨rfl, rfl⟩ := pk hj
   exact ht
  ·obtain ⟨rfl, rfl⟩ := pk hj
   exact ht
  ·obtain ⟨rfl, rfl⟩ := pk hj
   exact ht
  ·obtain ⟨rfl, rfl⟩ := pk hj
   exact ht
  ·obtain ⟨rfl, rfl⟩ := pk hj
   exact ht
  ·obtain ⟨rfl, rfl⟩ := pk hj
   exact ht
  ·obtain ⟨rfl, rfl⟩ := pk hj
   exact bx16_below hbe ht
  ·obtain ⟨rfl, rfl⟩ := pk hj
   exact ht
 ·intro i o d T ho ht hic k s x hk hlo hhi hph hdf hb hdep
  have hi : i < 10 := (Array.getElem?_eq_some_iff.1 ho).1
  rcases ltq10 hi with rfl | rfl | rfl | rfl | rfl | rfl | rfl | rfl | rfl | rfl
  ·obtain rfl := sj ho
   obtain ⟨rfl, rfl⟩ := pk ht
   refine ⟨want_none rfl, fun K hK => ?_⟩
   exact told_r12_o0 (hb (10, .slice (some ⟨bo, 0, none⟩) 25 25) (List.Mem.tail _ (List.Mem.tail _ (List.Mem.tail _ (List.Mem.tail _ (List.Mem.head _))))))  (hK _ x hph (Below.refl _ _) nn1 rfl)
  ·obtain rfl := sj ho
   obtain ⟨rfl, rfl⟩ := pk ht
   refine ⟨want_none rfl, fun K hK => ?_⟩
   exact told_r12_o1 (hb (3, .int .i64 (kk : Int)) (List.Mem.head _))  (hK _ x hph (Below.refl _ _) nn1 rfl)
  ·obtain rfl := sj ho
   obtain ⟨rfl, rfl⟩ := pk ht
   refine ⟨want_none rfl, fun K hK => ?_⟩
   have hk0 : (kk : Int) < 25 := by omega
   exact told_r12_o2 (hdep ⟨0, .data⟩ (by simp) rfl _ _ rfl) (hdep ⟨1, .data⟩ (by simp) rfl _ _ rfl) hk0 (hK _ x hph (Below.refl _ _) nn1 rfl)
  ·obtain rfl := sj ho
   obtain ⟨rfl, rfl⟩ := pk ht
   refine ⟨want_none rfl, fun K hK => ?_⟩
   have k0 := ((show Below w.heap.size w x from hph).cell hbo).trans hop
   exact told_r12_o3 (hdep ⟨2, .data⟩ (by simp) rfl _ _ rfl) k0 (hK _ x hph (Below.refl _ _) nn1 rfl)
  ·obtain rfl := sj ho
   obtain ⟨rfl, rfl⟩ := pk ht
   refine ⟨want_none rfl, fun K hK => ?_⟩
   obtain ⟨y0, y1, y2, y3⟩ := row_cells4 (row_below ra (show Below w.heap.size w x from hph))
   exact told_r12_o4 (hb (4, .pointer (some ⟨ba, 0, none⟩)) (List.Mem.tail _ (List.Mem.head _))) y0 y1 y2 y3 (hK _ x hph (Below.refl _ _) nn1 rfl)
  ·obtain rfl := sj ho
   obtain ⟨rfl, rfl⟩ := pk ht
   refine ⟨want_none rfl, fun K hK => ?_⟩
   obtain ⟨y0, y1, y2, y3⟩ := row_cells4 (row_below rb (show Below w.heap.size w x from hph))
   exact told_r12_o5 (hb (5, .pointer (some ⟨bb, 0, none⟩)) (List.Mem.tail _ (List.Mem.tail _ (List.Mem.head _)))) y0 y1 y2 y3 (hK _ x hph (Below.refl _ _) nn1 rfl)
  ·obtain rfl := sj ho
   obtain ⟨rfl, rfl⟩ := pk ht
   refine ⟨want_none rfl, fun K hK => ?_⟩
   obtain ⟨y0, y1, y2, y3⟩ := row_cells4 (row_below rc (show Below w.heap.size w x from hph))
   exact told_r12_o6 (hb (6, .pointer (some ⟨bc, 0, none⟩)) (List.Mem.tail _ (List.Mem.tail _ (List.Mem.tail _ (List.Mem.head _))))) y0 y1 y2 y3 (hK _ x hph (Below.refl _ _) nn1 rfl)
  ·exact absurd (by simp) hic
  ·obtain rfl := sj ho
   obtain ⟨rfl, rfl⟩ := pk ht
   refine ⟨want_none rfl, fun K hK => ?_⟩
   have hph : Below w.heap.size w x := hph
   have hk1 := hhi 1 9 rfl (by kernel_rfl)
   exact st_allocw (hK _ (x.alloc zw) (show PhT w _ _ from bal hph _) (bal (Below.refl _ _) _) nn1 ⟨x.heap.size, rfl, hph.size, fun _ => ⟨_, row_lit4 (fun _ => 0) rfl rfl rfl rfl rfl⟩, fun h => by omega⟩)
  ·exact absurd (by simp) hic
 ·intro p i o d T hp ho ht s x hph hdf hb hdep
  have hpl : p < 2 := (List.getElem?_eq_some_iff.1 hp).1
  rcases ltq2 hpl with rfl | rfl
  ·obtain rfl := sj hp
   obtain rfl := sj ho
   obtain ⟨rfl, rfl⟩ := pk ht
   refine ⟨want_none rfl, fun K hK => ?_⟩
   have hph : Below w.heap.size w x := hph
   refine st_call own_calc (ev4 (hdep ⟨3, .data⟩ (by simp) rfl _ _ rfl) (hdep ⟨4, .data⟩ (by simp) rfl _ _ rfl) (hdep ⟨5, .data⟩ (by simp) rfl _ _ rfl) (hdep ⟨6, .data⟩ (by simp) rfl _ _ rfl)) (hcl x) ?_
   rintro e y ⟨r0, HR, rfl, hB⟩
   exact ⟨_, rfl, hK _ y (show PhT w _ y from hph.trans (hB.mono hph.size)) hB nn1 (congrArg wv HR.out)⟩
  ·obtain rfl := sj hp
   obtain rfl := sj ho
   obtain ⟨rfl, rfl⟩ := pk ht
   refine ⟨want_none rfl, fun K hK => ?_⟩
   have hph : Below w.heap.size w x := hph
   have h16 := (hdep ⟨8, .data⟩ (by simp) rfl _ _ rfl)
   obtain ⟨g, e16, hg, hz0, _⟩ := h16
   obtain ⟨f, hf⟩ := hz0 (Nat.le_refl _)
   refine st_storew (n := r) e16 (hdep ⟨7, .data⟩ (by simp) rfl _ _ rfl) hf fun x' h1 h2 => hK undef x' ?_ ⟨g, e16, h1⟩ (fun _ => rfl) trivial
   rw [h2]
   exact (((((Kb.of_below (S := []) hph).setCell (Or.inr hg) _).setCell (Or.inr hg) _).setCell (Or.inr hg) _).setCell (Or.inr hg) _).to_below
 ·intro vs x hph hl hT
  obtain ⟨v0, v1, v2, v3, v4, v5, v6, v7, v8, v9, rfl⟩ := lenq10 hl
  obtain rfl : v0 = .slice (some ⟨bo, 0, none⟩) 25 25 := hT 0 _ _ rfl
  obtain rfl : v1 = .int .i64 (kk : Int) := hT 1 _ _ rfl
  obtain rfl : v2 = .pointer (some ⟨bo, kk, none⟩) := hT 2 _ _ rfl
  obtain rfl : v3 = .int .u8 (op : Int) := hT 3 _ _ rfl
  obtain rfl : v4 = .agg #[.int .u64 (limb na 0), .int .u64 (limb na 1), .int .u64 (limb na 2), .int .u64 (limb na 3)] := hT 4 _ _ rfl
  obtain rfl : v5 = .agg #[.int .u64 (limb nb' 0), .int .u64 (limb nb' 1), .int .u64 (limb nb' 2), .int .u64 (limb nb' 3)] := hT 5 _ _ rfl
  obtain rfl : v6 = .agg #[.int .u64 (limb nc 0), .int .u64 (limb nc 1), .int .u64 (limb nc 2), .int .u64 (limb nc 3)] := hT 6 _ _ rfl
  obtain rfl : v7 = wv r := hT 7 _ _ rfl
  have t8 : (Bx16 w r) 2 v8 x := hT 8 _ _ rfl
  exact hok x v8 hph t8
end
section
variable {br bg r g : Nat} {ans : ByteArray} {s : Act} {x : World} {K : Act → World → Prop} {Q : Exit → Act → World → Prop} {ty1 : TypeId} {po1 : String} {af1 : Array Edge} {gd1 : Option (Nat × Bool)}
theorem told_r13_o0 (e15 : s.tmps.getD 15 undef = .int .i64 0)  (hK : K (s.put (some 74) (.int .i64 0)) x) :
  Oper.wp Tryz.prog ⟨some 74, .move (.tmp 15), ty1, po1, af1, gd1⟩ s x K Q := by
 have f15 : s.eval (.tmp 15) = _ := e15
 go_simp
 exact hK
theorem told_r13_o1 (e74 : s.tmps.getD 74 undef = .int .i64 0)  (hK : K (s.put (some 75) (.bool true)) x) :
  Oper.wp Tryz.prog ⟨some 75, .binOp .eql 39 (.tmp 74) (.const (.int .i64 0)) 39, ty1, po1, af1, gd1⟩ s x K Q := by
 have f74 : s.eval (.tmp 74) = _ := e74
 go_simp
 exact hK
theorem told_r13_o2 (e75 : s.tmps.getD 75 undef = .bool true)  (hK : K (s.put (some 76) (.bool true)) x) :
  Oper.wp Tryz.prog ⟨some 76, .move (.tmp 75), ty1, po1, af1, gd1⟩ s x K Q := by
 have f75 : s.eval (.tmp 75) = _ := e75
 go_simp
 exact hK
theorem told_r13_o3 (e14 : s.tmps.getD 14 undef = .pointer (some ⟨br, 0, none⟩))  (hK : K (s.put (some 77) (.pointer (some ⟨br, 0, none⟩))) x) :
  Oper.wp Tryz.prog ⟨some 77, .fieldAddr 38 (.tmp 14) 0, ty1, po1, af1, gd1⟩ s x K Q := by
 have f14 : s.eval (.tmp 14) = _ := e14
 go_simp
 exact hK
theorem told_r13_o4 (e77 : s.tmps.getD 77 undef = .pointer (some ⟨br, 0, none⟩)) (k0 : x.cell? ⟨br, 0, none⟩ = some (.int .u8 0)) (hK : K (s.put (some 78) (.int .u8 0)) x) :
  Oper.wp Tryz.prog ⟨some 78, .load 5 (.tmp 77), ty1, po1, af1, gd1⟩ s x K Q := by
 have f77 : s.eval (.tmp 77) = _ := e77
 go_simp
 exact hK
theorem told_r13_o5 (e78 : s.tmps.getD 78 undef = .int .u8 0)  (hK : K (s.put (some 79) (.bool true)) x) :
  Oper.wp Tryz.prog ⟨some 79, .binOp .eql 5 (.tmp 78) (.const (.int .u8 0)) 5, ty1, po1, af1, gd1⟩ s x K Q := by
 have f78 : s.eval (.tmp 78) = _ := e78
 go_simp
 exact hK
theorem told_r13_o6 (e76 : s.tmps.getD 76 undef = .bool true) (e79 : s.tmps.getD 79 undef = .bool true)  (hK : K (s.put (some 80) (.bool true)) x) :
  Oper.wp Tryz.prog ⟨some 80, .pick (.tmp 76) (.tmp 79) (.const (.bool false)), ty1, po1, af1, gd1⟩ s x K Q := by
 have f76 : s.eval (.tmp 76) = _ := e76
 have f79 : s.eval (.tmp 79) = _ := e79
 go_simp
 exact hK
theorem told_r13_o7 (e80 : s.tmps.getD 80 undef = .bool true)  (hK : K (s.put (some 81) (.bool true)) x) :
  Oper.wp Tryz.prog ⟨some 81, .move (.tmp 80), ty1, po1, af1, gd1⟩ s x K Q := by
 have f80 : s.eval (.tmp 80) = _ := e80
 go_simp
 exact hK
theorem told_r13_o8 (e14 : s.tmps.getD 14 undef = .pointer (some ⟨br, 0, none⟩))  (hK : K (s.put (some 82) (.pointer (some ⟨br, 2, none⟩))) x) :
  Oper.wp Tryz.prog ⟨some 82, .fieldAddr 38 (.tmp 14) 2, ty1, po1, af1, gd1⟩ s x K Q := by
 have f14 : s.eval (.tmp 14) = _ := e14
 go_simp
 exact hK
theorem told_r13_o9 (e82 : s.tmps.getD 82 undef = .pointer (some ⟨br, 2, none⟩)) (k0 : x.cell? ⟨br, 2, none⟩ = some (.string ans)) (hK : K (s.put (some 83) (.string ans)) x) :
  Oper.wp Tryz.prog ⟨some 83, .load 9 (.tmp 82), ty1, po1, af1, gd1⟩ s x K Q := by
 have f82 : s.eval (.tmp 82) = _ := e82
 go_simp
 exact hK
theorem told_r13_o10 (e16 : s.tmps.getD 16 undef = .pointer (some ⟨bg, 0, none⟩)) (y0 : x.cell? ⟨bg, 0, none⟩ = some (.int .u64 (limb r 0))) (y1 : x.cell? ⟨bg, 1, none⟩ = some (.int .u64 (limb r 1))) (y2 : x.cell? ⟨bg, 2, none⟩ = some (.int .u64 (limb r 2))) (y3 : x.cell? ⟨bg, 3, none⟩ = some (.int .u64 (limb r 3))) (hK : K (s.put (some 84) (.agg #[.int .u64 (limb r 0), .int .u64 (limb r 1), .int .u64 (limb r 2), .int .u64 (limb r 3)])) x) :
  Oper.wp Tryz.prog ⟨some 84, .load 24 (.tmp 16), ty1, po1, af1, gd1⟩ s x K Q := by
 have f16 : s.eval (.tmp 16) = _ := e16
 go_simp
 exact hK
theorem told_r13_o12 (e83 : s.tmps.getD 83 undef = .string ans) (e85 : s.tmps.getD 85 undef = .string ans)  (hK : K (s.put (some 86) (.bool true)) x) :
  Oper.wp Tryz.prog ⟨some 86, .binOp .eql 9 (.tmp 83) (.tmp 85) 9, ty1, po1, af1, gd1⟩ s x K Q := by
 have f83 : s.eval (.tmp 83) = _ := e83
 have f85 : s.eval (.tmp 85) = _ := e85
 go_simp
 exact hK
theorem told_r13_o13 (e81 : s.tmps.getD 81 undef = .bool true) (e86 : s.tmps.getD 86 undef = .bool true)  (hK : K (s.put (some 87) (.bool true)) x) :
  Oper.wp Tryz.prog ⟨some 87, .pick (.tmp 81) (.tmp 86) (.const (.bool false)), ty1, po1, af1, gd1⟩ s x K Q := by
 have f81 : s.eval (.tmp 81) = _ := e81
 have f86 : s.eval (.tmp 86) = _ := e86
 go_simp
 exact hK
theorem told_r13_o14 (e87 : s.tmps.getD 87 undef = .bool true)  (hK : K (s.put (some 88) (.bool true)) x) :
  Oper.wp Tryz.prog ⟨some 88, .move (.tmp 87), ty1, po1, af1, gd1⟩ s x K Q := by
 have f87 : s.eval (.tmp 87) = _ := e87
 go_simp
 exact hK
theorem told_r13_o15 (e14 : s.tmps.getD 14 undef = .pointer (some ⟨br, 0, none⟩))  (hK : K (s.put (some 89) (.pointer (some ⟨br, 1, none⟩))) x) :
  Oper.wp Tryz.prog ⟨some 89, .fieldAddr 38 (.tmp 14) 1, ty1, po1, af1, gd1⟩ s x K Q := by
 have f14 : s.eval (.tmp 14) = _ := e14
 go_simp
 exact hK
theorem told_r13_o16 (e89 : s.tmps.getD 89 undef = .pointer (some ⟨br, 1, none⟩)) (k0 : x.cell? ⟨br, 1, none⟩ = some (.int .i64 (g : Int))) (hK : K (s.put (some 90) (.int .i64 (g : Int))) x) :
  Oper.wp Tryz.prog ⟨some 90, .load 3 (.tmp 89), ty1, po1, af1, gd1⟩ s x K Q := by
 have f89 : s.eval (.tmp 89) = _ := e89
 go_simp
 exact hK
theorem told_r13_o17 (e90 : s.tmps.getD 90 undef = .int .i64 (g : Int)) (g0 : 0 < g) (hK : K (s.put (some 91) (.bool true)) x) :
  Oper.wp Tryz.prog ⟨some 91, .binOp .gtr 3 (.tmp 90) (.const (.int .i64 0)) 3, ty1, po1, af1, gd1⟩ s x K Q := by
 have f90 : s.eval (.tmp 90) = _ := e90
 go_simp
 exact hK
theorem told_r13_o18 (e88 : s.tmps.getD 88 undef = .bool true) (e91 : s.tmps.getD 91 undef = .bool true)  (hK : K (s.put (some 92) (.bool true)) x) :
  Oper.wp Tryz.prog ⟨some 92, .pick (.tmp 88) (.tmp 91) (.const (.bool false)), ty1, po1, af1, gd1⟩ s x K Q := by
 have f88 : s.eval (.tmp 88) = _ := e88
 have f91 : s.eval (.tmp 91) = _ := e91
 go_simp
 exact hK
theorem told_r13_o19 (e92 : s.tmps.getD 92 undef = .bool true)  (hK : K (s.put (some 93) (.bool true)) x) :
  Oper.wp Tryz.prog ⟨some 93, .move (.tmp 92), ty1, po1, af1, gd1⟩ s x K Q := by
 have f92 : s.eval (.tmp 92) = _ := e92
 go_simp
 exact hK
theorem told_r13_o20 (e14 : s.tmps.getD 14 undef = .pointer (some ⟨br, 0, none⟩))  (hK : K (s.put (some 94) (.pointer (some ⟨br, 1, none⟩))) x) :
  Oper.wp Tryz.prog ⟨some 94, .fieldAddr 38 (.tmp 14) 1, ty1, po1, af1, gd1⟩ s x K Q := by
 have f14 : s.eval (.tmp 14) = _ := e14
 go_simp
 exact hK
theorem told_r13_o21 (e94 : s.tmps.getD 94 undef = .pointer (some ⟨br, 1, none⟩)) (k0 : x.cell? ⟨br, 1, none⟩ = some (.int .i64 (g : Int))) (hK : K (s.put (some 95) (.int .i64 (g : Int))) x) :
  Oper.wp Tryz.prog ⟨some 95, .load 3 (.tmp 94), ty1, po1, af1, gd1⟩ s x K Q := by
 have f94 : s.eval (.tmp 94) = _ := e94
 go_simp
 exact hK
theorem told_r13_o22 (e95 : s.tmps.getD 95 undef = .int .i64 (g : Int)) (g0 : (g : Int) < 10000) (hK : K (s.put (some 96) (.bool true)) x) :
  Oper.wp Tryz.prog ⟨some 96, .binOp .lss 3 (.tmp 95) (.const (.int .i64 10000)) 3, ty1, po1, af1, gd1⟩ s x K Q := by
 have f95 : s.eval (.tmp 95) = _ := e95
 go_simp
 exact hK
theorem told_r13_o23 (e93 : s.tmps.getD 93 undef = .bool true) (e96 : s.tmps.getD 96 undef = .bool true)  (hK : K (s.put (some 97) (.bool true)) x) :
  Oper.wp Tryz.prog ⟨some 97, .pick (.tmp 93) (.tmp 96) (.const (.bool false)), ty1, po1, af1, gd1⟩ s x K Q := by
 have f93 : s.eval (.tmp 93) = _ := e93
 have f96 : s.eval (.tmp 96) = _ := e96
 go_simp
 exact hK
theorem told_r13_o24 (e97 : s.tmps.getD 97 undef = .bool true)  (hK : K (s.put (some 8) (.bool true)) x) :
  Oper.wp Tryz.prog ⟨some 8, .assign (.tmp 97), ty1, po1, af1, gd1⟩ s x K Q := by
 have f97 : s.eval (.tmp 97) = _ := e97
 go_simp
 exact hK
theorem told_r13 {br bg r g : Nat} {ans : ByteArray} {Q : Exit → Act → World → Prop} (a : Act) (w : World) (hbr : br < w.heap.size) (h_0 : w.cell? ⟨br, 0, none⟩ = some (.int .u8 0)) (h_1 : w.cell? ⟨br, 1, none⟩ = some (.int .i64 (g : Int))) (h_2 : w.cell? ⟨br, 2, none⟩ = some (.string ans)) (rr : wrow w bg r) (hg1 : 0 < g) (hg2 : g < 10000) (hans : (⟨(bys r 0).toArray⟩ : ByteArray) = ans) (h0 : Below w.heap.size w w.drew) (hsz : decide (97 < a.tmps.size) = true) (c14 : a.tmps.getD 14 undef = .pointer (some ⟨br, 0, none⟩)) (c15 : a.tmps.getD 15 undef = .int .i64 0) (c16 : a.tmps.getD 16 undef = .pointer (some ⟨bg, 0, none⟩))
  (hok : ∀ (x : World), (PhT w) 1 x → Q .normal (fill a [(74, .int .i64 0), (75, .bool true), (76, .bool true), (77, .pointer (some ⟨br, 0, none⟩)), (78, .int .u8 0), (79, .bool true), (80, .bool true), (81, .bool true), (82, .pointer (some ⟨br, 2, none⟩)), (83, .string ans), (84, .agg #[.int .u64 (limb r 0), .int .u64 (limb r 1), .int .u64 (limb r 2), .int .u64 (limb r 3)]), (85, .string ans), (86, .bool true), (87, .bool true), (88, .bool true), (89, .pointer (some ⟨br, 1, none⟩)), (90, .int .i64 (g : Int)), (91, .bool true), (92, .bool true), (93, .bool true), (94, .pointer (some ⟨br, 1, none⟩)), (95, .int .i64 (g : Int)), (96, .bool true), (97, .bool true), (8, .bool true)]) x) :
  (Code.region 13 #[⟨some 74, .move (.tmp 15), 39, "keeps.go:128", #[], none⟩, ⟨some 75, .binOp .eql 39 (.tmp 74) (.const (.int .i64 0)) 39, 4, "keeps.go:128", #[⟨0, .data⟩], none⟩, ⟨some 76, .move (.tmp 75), 4, "keeps.go:128", #[⟨1, .data⟩], none⟩, ⟨some 77, .fieldAddr 38 (.tmp 14) 0, 0, "keeps.go:128", #[⟨2, .guard⟩], some (2, true)⟩, ⟨some 78, .load 5 (.tmp 77), 5, "keeps.go:128", #[⟨3, .data⟩, ⟨2, .guard⟩], some (2, true)⟩, ⟨some 79, .binOp .eql 5 (.tmp 78) (.const (.int .u8 0)) 5, 4, "keeps.go:128", #[⟨4, .data⟩, ⟨2, .guard⟩], some (2, true)⟩, ⟨some 80, .pick (.tmp 76) (.tmp 79) (.const (.bool false)), 4, "keeps.go:128", #[⟨2, .data⟩, ⟨5, .data⟩], none⟩, ⟨some 81, .move (.tmp 80), 4, "keeps.go:128", #[⟨6, .data⟩, ⟨2, .chain⟩], none⟩, ⟨some 82, .fieldAddr 38 (.tmp 14) 2, 0, "keeps.go:128", #[⟨7, .guard⟩], some (7, true)⟩, ⟨some 83, .load 9 (.tmp 82), 9, "keeps.go:128", #[⟨8, .data⟩, ⟨7, .guard⟩], some (7, true)⟩, ⟨some 84, .load 24 (.tmp 16), 24, "keeps.go:128", #[⟨7, .guard⟩], some (7, true)⟩, ⟨some 85, .call ⟨.value (.func 15), #[.tmp 84], #[24]⟩, 9, "keeps.go:128", #[⟨10, .data⟩, ⟨7, .chain⟩, ⟨7, .guard⟩], some (7, true)⟩, ⟨some 86, .binOp .eql 9 (.tmp 83) (.tmp 85) 9, 4, "keeps.go:128", #[⟨9, .data⟩, ⟨11, .data⟩, ⟨7, .guard⟩], some (7, true)⟩, ⟨some 87, .pick (.tmp 81) (.tmp 86) (.const (.bool false)), 4, "keeps.go:128", #[⟨7, .data⟩, ⟨12, .data⟩], none⟩, ⟨some 88, .move (.tmp 87), 4, "keeps.go:128", #[⟨13, .data⟩, ⟨11, .chain⟩], none⟩, ⟨some 89, .fieldAddr 38 (.tmp 14) 1, 0, "keeps.go:128", #[⟨14, .guard⟩], some (14, true)⟩, ⟨some 90, .load 3 (.tmp 89), 3, "keeps.go:128", #[⟨15, .data⟩, ⟨14, .guard⟩], some (14, true)⟩, ⟨some 91, .binOp .gtr 3 (.tmp 90) (.const (.int .i64 0)) 3, 4, "keeps.go:128", #[⟨16, .data⟩, ⟨14, .guard⟩], some (14, true)⟩, ⟨some 92, .pick (.tmp 88) (.tmp 91) (.const (.bool false)), 4, "keeps.go:128", #[⟨14, .data⟩, ⟨17, .data⟩], none⟩, ⟨some 93, .move (.tmp 92), 4, "keeps.go:128", #[⟨18, .data⟩, ⟨14, .chain⟩], none⟩, ⟨some 94, .fieldAddr 38 (.tmp 14) 1, 0, "keeps.go:128", #[⟨19, .guard⟩], some (19, true)⟩, ⟨some 95, .load 3 (.tmp 94), 3, "keeps.go:128", #[⟨20, .data⟩, ⟨19, .guard⟩], some (19, true)⟩, ⟨some 96, .binOp .lss 3 (.tmp 95) (.const (.int .i64 10000)) 3, 4, "keeps.go:128", #[⟨21, .data⟩, ⟨19, .guard⟩], some (19, true)⟩, ⟨some 97, .pick (.tmp 93) (.tmp 96) (.const (.bool false)), 4, "keeps.go:128", #[⟨19, .data⟩, ⟨22, .data⟩], none⟩, ⟨some 8, .assign (.tmp 97), 4, "keeps.go:128", #[⟨23, .data⟩, ⟨19, .chain⟩, ⟨0, .phase⟩, ⟨1, .phase⟩, ⟨2, .phase⟩, ⟨3, .phase⟩, ⟨4, .phase⟩, ⟨5, .phase⟩, ⟨6, .phase⟩, ⟨7, .phase⟩, ⟨8, .phase⟩, ⟨9, .phase⟩, ⟨10, .phase⟩, ⟨11, .phase⟩, ⟨12, .phase⟩, ⟨13, .phase⟩, ⟨14, .phase⟩, ⟨15, .phase⟩, ⟨16, .phase⟩, ⟨17, .phase⟩, ⟨18, .phase⟩, ⟨19, .phase⟩, ⟨20, .phase⟩, ⟨21, .phase⟩, ⟨22, .phase⟩, ⟨23, .phase⟩], none⟩] true).wp Tryz.prog Q a w := by
 have hsz := of_decide_eq_true hsz
 refine wp_region_ph (by kernel_rfl) (by kernel_rfl) (PhT w) (fun _ _ _ => True) [(some 74, Cp (.int .i64 0)), (some 75, Cp (.bool true)), (some 76, Cp (.bool true)), (some 77, Cp (.pointer (some ⟨br, 0, none⟩))), (some 78, Cp (.int .u8 0)), (some 79, Cp (.bool true)), (some 80, Cp (.bool true)), (some 81, Cp (.bool true)), (some 82, Cp (.pointer (some ⟨br, 2, none⟩))), (some 83, Cp (.string ans)), (some 84, Cp (.agg #[.int .u64 (limb r 0), .int .u64 (limb r 1), .int .u64 (limb r 2), .int .u64 (limb r 3)])), (some 85, Cp (.string ans)), (some 86, Cp (.bool true)), (some 87, Cp (.bool true)), (some 88, Cp (.bool true)), (some 89, Cp (.pointer (some ⟨br, 1, none⟩))), (some 90, Cp (.int .i64 (g : Int))), (some 91, Cp (.bool true)), (some 92, Cp (.bool true)), (some 93, Cp (.bool true)), (some 94, Cp (.pointer (some ⟨br, 1, none⟩))), (some 95, Cp (.int .i64 (g : Int))), (some 96, Cp (.bool true)), (some 97, Cp (.bool true)), (some 8, Cp (.bool true))] [11] rfl (by rfl) ?_ ?_ [(14, .pointer (some ⟨br, 0, none⟩)), (15, .int .i64 0), (16, .pointer (some ⟨bg, 0, none⟩))] ?_ (by rfl) (by kernel_rfl) (by rfl) (by rfl) ?_ ?_ ?_ ?_
 ·refine List.all_eq_true.2 fun d hd => decide_eq_true ?_
  have hd2 : d ∈ ([74, 75, 76, 77, 78, 79, 80, 81, 82, 83, 84, 85, 86, 87, 88, 89, 90, 91, 92, 93, 94, 95, 96, 97, 8] : List Nat) := hd
  simp at hd2
  omega
 ·exact h0
 ·intro p hp
  simp only [List.mem_cons, List.not_mem_nil, or_false] at hp
  rcases hp with rfl | rfl | rfl
  ·exact c14
  ·exact c15
  ·exact c16
 ·intro j d T hj p v x x' hne hpl hph hrel ht
  have hjl : j < 25 := (List.getElem?_eq_some_iff.1 hj).1
  rcases ltq25 hjl with rfl | rfl | rfl | rfl | rfl | rfl | rfl | rfl | rfl | rfl | rfl | rfl | rfl | rfl | rfl | rfl | rfl | rfl | rfl | rfl | rfl | rfl | rfl | rfl | rfl
  ·obtain ⟨rfl, rfl⟩ := pk hj
   exact ht
  ·obtain ⟨rfl, rfl⟩ := pk hj
   exact ht
  ·obtain ⟨rfl, rfl⟩ := pk hj
   exact ht
  ·obtain ⟨rfl, rfl⟩ := pk hj
   exact ht
  ·obtain ⟨rfl, rfl⟩ := pk hj
   exact ht
  ·obtain ⟨rfl, rfl⟩ := pk hj
   exact ht
  ·obtain ⟨rfl, rfl⟩ := pk hj
   exact ht
  ·obtain ⟨rfl, rfl⟩ := pk hj
   exact ht
  ·obtain ⟨rfl, rfl⟩ := pk hj
   exact ht
  ·obtain ⟨rfl, rfl⟩ := pk hj
   exact ht
  ·obtain ⟨rfl, rfl⟩ := pk hj
   exact ht
  ·obtain ⟨rfl, rfl⟩ := pk hj
   exact ht
  ·obtain ⟨rfl, rfl⟩ := pk hj
   exact ht
  ·obtain ⟨rfl, rfl⟩ := pk hj
   exact ht
  ·obtain ⟨rfl, rfl⟩ := pk hj
   exact ht
  ·obtain ⟨rfl, rfl⟩ := pk hj
   exact ht
  ·obtain ⟨rfl, rfl⟩ := pk hj
   exact ht
  ·obtain ⟨rfl, rfl⟩ := pk hj
   exact ht
  ·obtain ⟨rfl, rfl⟩ := pk hj
   exact ht
  ·obtain ⟨rfl, rfl⟩ := pk hj
   exact ht
  ·obtain ⟨rfl, rfl⟩ := pk hj
   exact ht
  ·obtain ⟨rfl, rfl⟩ := pk hj
   exact ht
  ·obtain ⟨rfl, rfl⟩ := pk hj
   exact ht
  ·obtain ⟨rfl, rfl⟩ := pk hj
   exact ht
  ·obtain ⟨rfl, rfl⟩ := pk hj
   exact ht
 ·intro i o d T ho ht hic k s x hk hlo hhi hph hdf hb hdep
  have hi : i < 25 := (Array.getElem?_eq_some_iff.1 ho).1
  rcases ltq25 hi with rfl | rfl | rfl | rfl | rfl | rfl | rfl | rfl | rfl | rfl | rfl | rfl | rfl | rfl | rfl | rfl | rfl | rfl | rfl | rfl | rfl | rfl | rfl | rfl | rfl
  ·obtain rfl := sj ho
   obtain ⟨rfl, rfl⟩ := pk ht
   refine ⟨want_none rfl, fun K hK => ?_⟩
   exact told_r13_o0 (hb (15, .int .i64 0) (List.Mem.tail _ (List.Mem.head _)))  (hK _ nn1 rfl)
  ·obtain rfl := sj ho
   obtain ⟨rfl, rfl⟩ := pk ht
   refine ⟨want_none rfl, fun K hK => ?_⟩
   exact told_r13_o1 (hdep ⟨0, .data⟩ (by simp) rfl _ _ rfl)  (hK _ nn1 rfl)
  ·obtain rfl := sj ho
   obtain ⟨rfl, rfl⟩ := pk ht
   refine ⟨want_none rfl, fun K hK => ?_⟩
   exact told_r13_o2 (hdep ⟨1, .data⟩ (by simp) rfl _ _ rfl)  (hK _ nn1 rfl)
  ·obtain rfl := sj ho
   obtain ⟨rfl, rfl⟩ := pk ht
   refine ⟨want_some rfl rfl rfl (hdep ⟨2, .guard⟩ (by simp) rfl _ _ rfl), fun K hK => ?_⟩
   exact told_r13_o3 (hb (14, .pointer (some ⟨br, 0, none⟩)) (List.Mem.head _))  (hK _ nn1 rfl)
  ·obtain rfl := sj ho
   obtain ⟨rfl, rfl⟩ := pk ht
   refine ⟨want_some rfl rfl rfl (hdep ⟨2, .guard⟩ (by simp) rfl _ _ rfl), fun K hK => ?_⟩
   have k0 := ((show Below w.heap.size w x from hph).cell hbr).trans h_0
   exact told_r13_o4 (hdep ⟨3, .data⟩ (by simp) rfl _ _ rfl) k0 (hK _ nn1 rfl)
  ·obtain rfl := sj ho
   obtain ⟨rfl, rfl⟩ := pk ht
   refine ⟨want_some rfl rfl rfl (hdep ⟨2, .guard⟩ (by simp) rfl _ _ rfl), fun K hK => ?_⟩
   exact told_r13_o5 (hdep ⟨4, .data⟩ (by simp) rfl _ _ rfl)  (hK _ nn1 rfl)
  ·obtain rfl := sj ho
   obtain ⟨rfl, rfl⟩ := pk ht
   refine ⟨want_none rfl, fun K hK => ?_⟩
   exact told_r13_o6 (hdep ⟨2, .data⟩ (by simp) rfl _ _ rfl) (hdep ⟨5, .data⟩ (by simp) rfl _ _ rfl)  (hK _ nn1 rfl)
  ·obtain rfl := sj ho
   obtain ⟨rfl, rfl⟩ := pk ht
   refine ⟨want_none rfl, fun K hK => ?_⟩
   exact told_r13_o7 (hdep ⟨6, .data⟩ (by simp) rfl _ _ rfl)  (hK _ nn1 rfl)
  ·obtain rfl := sj ho
   obtain ⟨rfl, rfl⟩ := pk ht
   refine ⟨want_some rfl rfl rfl (hdep ⟨7, .guard⟩ (by simp) rfl _ _ rfl), fun K hK => ?_⟩
   exact told_r13_o8 (hb (14, .pointer (some ⟨br, 0, none⟩)) (List.Mem.head _))  (hK _ nn1 rfl)
  ·obtain rfl := sj ho
   obtain ⟨rfl, rfl⟩ := pk ht
   refine ⟨want_some rfl rfl rfl (hdep ⟨7, .guard⟩ (by simp) rfl _ _ rfl), fun K hK => ?_⟩
   have k0 := ((show Below w.heap.size w x from hph).cell hbr).trans h_2
   exact told_r13_o9 (hdep ⟨8, .data⟩ (by simp) rfl _ _ rfl) k0 (hK _ nn1 rfl)
  ·obtain rfl := sj ho
   obtain ⟨rfl, rfl⟩ := pk ht
   refine ⟨want_some rfl rfl rfl (hdep ⟨7, .guard⟩ (by simp) rfl _ _ rfl), fun K hK => ?_⟩
   obtain ⟨y0, y1, y2, y3⟩ := row_cells4 (row_below rr (show Below w.heap.size w x from hph))
   exact told_r13_o10 (hb (16, .pointer (some ⟨bg, 0, none⟩)) (List.Mem.tail _ (List.Mem.tail _ (List.Mem.head _)))) y0 y1 y2 y3 (hK _ nn1 rfl)
  ·exact absurd (by simp) hic
  ·obtain rfl := sj ho
   obtain ⟨rfl, rfl⟩ := pk ht
   refine ⟨want_some rfl rfl rfl (hdep ⟨7, .guard⟩ (by simp) rfl _ _ rfl), fun K hK => ?_⟩
   exact told_r13_o12 (hdep ⟨9, .data⟩ (by simp) rfl _ _ rfl) (hdep ⟨11, .data⟩ (by simp) rfl _ _ rfl)  (hK _ nn1 rfl)
  ·obtain rfl := sj ho
   obtain ⟨rfl, rfl⟩ := pk ht
   refine ⟨want_none rfl, fun K hK => ?_⟩
   exact told_r13_o13 (hdep ⟨7, .data⟩ (by simp) rfl _ _ rfl) (hdep ⟨12, .data⟩ (by simp) rfl _ _ rfl)  (hK _ nn1 rfl)
  ·obtain rfl := sj ho
   obtain ⟨rfl, rfl⟩ := pk ht
   refine ⟨want_none rfl, fun K hK => ?_⟩
   exact told_r13_o14 (hdep ⟨13, .data⟩ (by simp) rfl _ _ rfl)  (hK _ nn1 rfl)
  ·obtain rfl := sj ho
   obtain ⟨rfl, rfl⟩ := pk ht
   refine ⟨want_some rfl rfl rfl (hdep ⟨14, .guard⟩ (by simp) rfl _ _ rfl), fun K hK => ?_⟩
   exact told_r13_o15 (hb (14, .pointer (some ⟨br, 0, none⟩)) (List.Mem.head _))  (hK _ nn1 rfl)
  ·obtain rfl := sj ho
   obtain ⟨rfl, rfl⟩ := pk ht
   refine ⟨want_some rfl rfl rfl (hdep ⟨14, .guard⟩ (by simp) rfl _ _ rfl), fun K hK => ?_⟩
   have k0 := ((show Below w.heap.size w x from hph).cell hbr).trans h_1
   exact told_r13_o16 (hdep ⟨15, .data⟩ (by simp) rfl _ _ rfl) k0 (hK _ nn1 rfl)
  ·obtain rfl := sj ho
   obtain ⟨rfl, rfl⟩ := pk ht
   refine ⟨want_some rfl rfl rfl (hdep ⟨14, .guard⟩ (by simp) rfl _ _ rfl), fun K hK => ?_⟩
   have g0 : 0 < g := hg1
   exact told_r13_o17 (hdep ⟨16, .data⟩ (by simp) rfl _ _ rfl) g0 (hK _ nn1 rfl)
  ·obtain rfl := sj ho
   obtain ⟨rfl, rfl⟩ := pk ht
   refine ⟨want_none rfl, fun K hK => ?_⟩
   exact told_r13_o18 (hdep ⟨14, .data⟩ (by simp) rfl _ _ rfl) (hdep ⟨17, .data⟩ (by simp) rfl _ _ rfl)  (hK _ nn1 rfl)
  ·obtain rfl := sj ho
   obtain ⟨rfl, rfl⟩ := pk ht
   refine ⟨want_none rfl, fun K hK => ?_⟩
   exact told_r13_o19 (hdep ⟨18, .data⟩ (by simp) rfl _ _ rfl)  (hK _ nn1 rfl)
  ·obtain rfl := sj ho
   obtain ⟨rfl, rfl⟩ := pk ht
   refine ⟨want_some rfl rfl rfl (hdep ⟨19, .guard⟩ (by simp) rfl _ _ rfl), fun K hK => ?_⟩
   exact told_r13_o20 (hb (14, .pointer (some ⟨br, 0, none⟩)) (List.Mem.head _))  (hK _ nn1 rfl)
  ·obtain rfl := sj ho
   obtain ⟨rfl, rfl⟩ := pk ht
   refine ⟨want_some rfl rfl rfl (hdep ⟨19, .guard⟩ (by simp) rfl _ _ rfl), fun K hK => ?_⟩
   have k0 := ((show Below w.heap.size w x from hph).cell hbr).trans h_1
   exact told_r13_o21 (hdep ⟨20, .data⟩ (by simp) rfl _ _ rfl) k0 (hK _ nn1 rfl)
  ·obtain rfl := sj ho
   obtain ⟨rfl, rfl⟩ := pk ht
   refine ⟨want_some rfl rfl rfl (hdep ⟨19, .guard⟩ (by simp) rfl _ _ rfl), fun K hK => ?_⟩
   have g0 : (g : Int) < 10000 := by omega
   exact told_r13_o22 (hdep ⟨21, .data⟩ (by simp) rfl _ _ rfl) g0 (hK _ nn1 rfl)
  ·obtain rfl := sj ho
   obtain ⟨rfl, rfl⟩ := pk ht
   refine ⟨want_none rfl, fun K hK => ?_⟩
   exact told_r13_o23 (hdep ⟨19, .data⟩ (by simp) rfl _ _ rfl) (hdep ⟨22, .data⟩ (by simp) rfl _ _ rfl)  (hK _ nn1 rfl)
  ·obtain rfl := sj ho
   obtain ⟨rfl, rfl⟩ := pk ht
   refine ⟨want_none rfl, fun K hK => ?_⟩
   exact told_r13_o24 (hdep ⟨23, .data⟩ (by simp) rfl _ _ rfl)  (hK _ nn1 rfl)
 ·intro p i o d T hp ho ht s x hph hdf hb hdep
  have hpl : p < 1 := (List.getElem?_eq_some_iff.1 hp).1
  obtain rfl : p = 0 := by omega
  ·obtain rfl := sj hp
   obtain rfl := sj ho
   obtain ⟨rfl, rfl⟩ := pk ht
   refine ⟨want_some rfl rfl rfl (hdep ⟨7, .guard⟩ (by simp) rfl _ _ rfl), fun K hK => ?_⟩
   have hph : Below w.heap.size w x := hph
   refine st_call own_bytesOf (ev1 (hdep ⟨10, .data⟩ (by simp) rfl _ _ rfl)) (kbytesOf_any r x) ?_
   rintro e y ⟨rfl, hB⟩
   exact ⟨_, rfl, hK _ y (show PhT w _ y from hph.trans (hB.mono hph.size)) trivial nn1 (congrArg Value.string hans)⟩
 ·intro vs x hph hl hT
  obtain ⟨v0, v1, v2, v3, v4, v5, v6, v7, v8, v9, v10, v11, v12, v13, v14, v15, v16, v17, v18, v19, v20, v21, v22, v23, v24, rfl⟩ := lenq25 hl
  obtain rfl : v0 = .int .i64 0 := hT 0 _ _ rfl
  obtain rfl : v1 = .bool true := hT 1 _ _ rfl
  obtain rfl : v2 = .bool true := hT 2 _ _ rfl
  obtain rfl : v3 = .pointer (some ⟨br, 0, none⟩) := hT 3 _ _ rfl
  obtain rfl : v4 = .int .u8 0 := hT 4 _ _ rfl
  obtain rfl : v5 = .bool true := hT 5 _ _ rfl
  obtain rfl : v6 = .bool true := hT 6 _ _ rfl
  obtain rfl : v7 = .bool true := hT 7 _ _ rfl
  obtain rfl : v8 = .pointer (some ⟨br, 2, none⟩) := hT 8 _ _ rfl
  obtain rfl : v9 = .string ans := hT 9 _ _ rfl
  obtain rfl : v10 = .agg #[.int .u64 (limb r 0), .int .u64 (limb r 1), .int .u64 (limb r 2), .int .u64 (limb r 3)] := hT 10 _ _ rfl
  obtain rfl : v11 = .string ans := hT 11 _ _ rfl
  obtain rfl : v12 = .bool true := hT 12 _ _ rfl
  obtain rfl : v13 = .bool true := hT 13 _ _ rfl
  obtain rfl : v14 = .bool true := hT 14 _ _ rfl
  obtain rfl : v15 = .pointer (some ⟨br, 1, none⟩) := hT 15 _ _ rfl
  obtain rfl : v16 = .int .i64 (g : Int) := hT 16 _ _ rfl
  obtain rfl : v17 = .bool true := hT 17 _ _ rfl
  obtain rfl : v18 = .bool true := hT 18 _ _ rfl
  obtain rfl : v19 = .bool true := hT 19 _ _ rfl
  obtain rfl : v20 = .pointer (some ⟨br, 1, none⟩) := hT 20 _ _ rfl
  obtain rfl : v21 = .int .i64 (g : Int) := hT 21 _ _ rfl
  obtain rfl : v22 = .bool true := hT 22 _ _ rfl
  obtain rfl : v23 = .bool true := hT 23 _ _ rfl
  obtain rfl : v24 = .bool true := hT 24 _ _ rfl
  exact hok x hph
end
end
section
open Go.RowKit Go.Maps
set_option maxRecDepth 100000
set_option maxHeartbeats 8000000 in
theorem told_any (na nb' nc : Nat) (kk : Int) (hk1 : -9223372036854775808 ≤ kk) (hk2 : kk ≤ 9223372036854775807) (w : World) (hz : Zr w) : Calls Tryz.prog 3 #[wv na, wv nb', wv nc, .int .i64 kk] w fun e w' => e = .returned (.bool true) ∧ Below w.heap.size w w' := by
 have HTW := hid_of (tw_mk w na nb' nc)
 have HZ := hid_of hz
 clear hz
 go_enter Tryz.func3, Tryz.ntmps3
 go_upto_if 20 with fail
 go_cut [3] from 19 to 23 (fun t3 wx => ∃ m : Nat, m ≤ 9223372036854775807 ∧ t3 = .int .i64 (m : Int) ∧ Hid (TW w na nb' nc wx))
 case first =>
  by_cases hlt : kk < 0
  ·have hd : decide (kk < 0) = true := decide_eq_true hlt
   have he : IntKind.i64.wrap (-(IntKind.i64.wrap (kk + 1))) = (((-(kk + 1)).toNat : Nat) : Int) := by
    rw [show IntKind.i64.wrap (kk + 1) = kk + 1 from by unfold IntKind.wrap; simp [IntKind.bits, IntKind.signed]; omega]
    unfold IntKind.wrap; simp [IntKind.bits, IntKind.signed]; omega
   go_wp2
   go_meet
   case rel => exact ⟨(-(kk + 1)).toNat, by omega, by rw [Int.toNat_of_nonneg (by omega)], HTW.out⟩
  ·have hd : decide (kk < 0) = false := decide_eq_false hlt
   go_wp2
   go_meet
   case rel => exact ⟨kk.toNat, by omega, by rw [Int.toNat_of_nonneg (by omega)], HTW.out⟩
 case rest =>
  obtain ⟨m, hm, rfl, HX⟩ := hcut
  go_wp2_with fail
  obtain ⟨k, hk, hk25⟩ : ∃ k : Nat, ((m : Int) % 25) = (k : Int) ∧ k < 25 := ⟨m % 25, by omega, by omega⟩
  rw [hk]
  clear hk hm hk1 hk2 HTW
  refine told_r6 (kk := k) (nm := ⟨(nmsL.getD k []).toArray⟩) _ wc HX.out.ra HX.out.rb HX.out.rc hk25 (nm_small hk25) HX.out.rn.lt (HX.out.rn.cell hk25) (Below.refl _ _).drew rfl rfl rfl rfl rfl rfl ?_
  intro x hx
  have hx : Below wc.heap.size wc x := hx
  have HT := hid_of (HX.out.below hx)
  have HZ2 := hid_of (HZ.out.below HT.out.be)
  clear HX HZ hx
  obtain ⟨s, HSB, hs1, hs2, HSC⟩ := code_of na nb' nc hk25 x
  unfold srcS at HSC
  generalize (((((((numS nc ++ ⟨#[32]⟩) ++ numS nb') ++ ⟨#[9]⟩) ++ numS na) ++ ⟨#[32, 59, 32, 119, 111, 114, 100, 115, 10]⟩) ++ ⟨(nmsL.getD k []).toArray⟩) ++ ⟨#[32, 64, 103, 114, 195, 182, 195, 159, 101, 32, 74, 85, 77, 80, 32, 83, 84, 79, 80, 32, 103, 114, 195, 182, 195, 159, 101, 58, 32, 49, 32, 83, 83, 84, 79, 82, 69, 10, 49, 32, 83, 76, 79, 65, 68, 32, 48, 32, 77, 83, 84, 79, 82, 69, 32, 51, 50, 32, 48, 32, 82, 69, 84, 85, 82, 78]⟩) = src at HSC ⊢
  generalize Value.agg #[.int .u64 (limb nc 0), .int .u64 (limb nc 1), .int .u64 (limb nc 2), .int .u64 (limb nc 3)] = x28
  generalize Value.agg #[.int .u64 (limb nb' 0), .int .u64 (limb nb' 1), .int .u64 (limb nb' 2), .int .u64 (limb nb' 3)] = x31
  generalize Value.agg #[.int .u64 (limb na 0), .int .u64 (limb na 1), .int .u64 (limb na 2), .int .u64 (limb na 3)] = x35
  generalize Value.string (numS nc) = x29
  generalize Value.string (numS nb') = x32
  generalize Value.string (numS na) = x36
  generalize Value.string (numS nc ++ ⟨#[32]⟩) = x30
  generalize Value.string ((numS nc ++ ⟨#[32]⟩) ++ numS nb') = x33
  generalize Value.string (((numS nc ++ ⟨#[32]⟩) ++ numS nb') ++ ⟨#[9]⟩) = x34
  generalize Value.string ((((numS nc ++ ⟨#[32]⟩) ++ numS nb') ++ ⟨#[9]⟩) ++ numS na) = x37
  generalize Value.string (((((numS nc ++ ⟨#[32]⟩) ++ numS nb') ++ ⟨#[9]⟩) ++ numS na) ++ ⟨#[32, 59, 32, 119, 111, 114, 100, 115, 10]⟩) = x38
  generalize Value.string ⟨(nmsL.getD k []).toArray⟩ = x42
  generalize Value.string ((((((numS nc ++ ⟨#[32]⟩) ++ numS nb') ++ ⟨#[9]⟩) ++ numS na) ++ ⟨#[32, 59, 32, 119, 111, 114, 100, 115, 10]⟩) ++ ⟨(nmsL.getD k []).toArray⟩) = x43
  simp only [fill, List.foldl_cons, List.foldl_nil, Act.put]
  simp only [List.setIfInBounds_toArray, List.set_cons_zero, List.set_cons_succ]
  go_wp2_with fail
  refine (HSC.out _).mono ?_
  rintro e w1 ⟨rfl, hb1⟩
  have HT1 := hid_of (HT.out.below hb1)
  have HZ1 := hid_of (HZ2.out.below hb1)
  clear HT HZ2 HSC hb1
  go_wp2_with fail
  refine (ksmall_any 9 (by decide) _).mono ?_
  rintro e w2 ⟨r9, H9, rfl, hb2⟩
  have HT2 := hid_of (HT1.out.below hb2)
  have HZ2 := hid_of (HZ1.out.below hb2)
  clear HT1 HZ1 hb2
  go_wp2_with fail
  refine (made_one w2.heap.size r9 0 s hs1 _ (acct_new w2 r9 s) (HZ2.out.below (bal (Below.refl _ _) _))).mono ?_
  rintro e w3 ⟨gb, ab, n, sb, rfl, hn, hh, hb3, hf3⟩
  have hw2 : w.heap.size ≤ (w2.alloc (.cells (acc0 r9 s) 34)).heap.size := (bal HT2.out.be _).size
  have HF : Hid (w.heap.size ≤ gb ∧ ∀ k, Afoot ab (oneA r9 0 s) sb k → w.heap.size ≤ k) := ⟨Nat.le_trans hw2 hf3.1, fun k hk => Nat.le_trans hw2 (hf3.2 k hk)⟩
  clear hf3 hw2
  have HT3 := hid_of ((HT2.out.below (bal (Below.refl _ _) _)).below hb3)
  have HH := hid_of hh
  clear HT2 HZ2 hb3 hh
  have he1 : s.toList.isEmpty = false := emp_f (by rintro rfl; exact absurd hs2 (by decide))
  have he2 : ¬ s.toList = [] := by
   intro h
   rw [h] at he1
   cases he1
  go_wp2_with fail
  clear he1 he2
  refine (ksmall_any 1 (by decide) _).mono ?_
  rintro e w4 ⟨r1, H1, rfl, hb4⟩
  have HT4 := hid_of (HT3.out.below hb4)
  have HH4 := hid_of (HH.out.below hb4)
  clear HT3 HH hb4
  go_wp2_with fail
  refine (ksmall_any 9 (by decide) _).mono ?_
  rintro e w5 ⟨r8, H8, rfl, hb5⟩
  have HT5 := hid_of (HT4.out.below hb5)
  have HH5 := hid_of (HH4.out.below hb5)
  clear HT4 HH4 hb5
  go_wp2_with fail
  refine (told_send hk25 HSB.out H1.out H8.out H9.out hs1 hn w5 HH5.out).mono ?_
  rintro e w6 ⟨g, hg1, hg2, rfl, S2, hkb, hS2⟩
  have HR := hid_of (HT5.out.kb hkb (host_not HH5.out hS2))
  have HB6 : Hid (Below w.heap.size w w6) := (((Kb.of_below (S := []) HT5.out.be).trans hkb (fun i hi => by
   rcases List.mem_cons.1 hi with e | e
   ·exact Or.inr (by rw [e]; exact HF.out.1)
   ·exact Or.inr (HF.out.2 i (hS2 i e)))) : Kb [] w w6).to_below
  clear HF
  generalize hans : ansS na nb' nc k = ans
  have HANS := hid_of hans
  clear hans hkb hS2 HT5 HH5 HSB hs1 hs2 H1 H8 H9 hn
  have HG := hid_of (And.intro hg1 hg2)
  clear hg1 hg2
  go_wp2_with fail
  have hB6 : Below w6.heap.size w6 (w6.alloc (.cells #[.int .u8 0, .int .i64 (g : Int), .string ans, .slice none 0 0] 38)) := bal (Below.refl _ _) _
  obtain ⟨ra, rb, rc, ro⟩ := HR.out
  have ro6 := row_below ro hB6
  refine told_r12 (kk := k) (op := opsL.getD k 0) (r := fcalc (opsL.getD k 0) (na % M) (nb' % M) (nc % M)) _ _ (row_below ra hB6) (row_below rb hB6) (row_below rc hB6) hk25 ro6.lt (ro6.cell hk25) (fun x => kcalc_any _ (op_ok hk25).2 (op_err hk25) na nb' nc x) (Below.refl _ _).drew rfl rfl rfl rfl rfl rfl ?_
  clear ra rb rc ro ro6 hB6
  rintro x7 z8 hx7 ⟨bg, rfl, -, -, hrow⟩
  have rr := hrow rfl
  have hx7 : Below (w6.alloc (.cells #[.int .u8 0, .int .i64 (g : Int), .string ans, .slice none 0 0] 38)).heap.size (w6.alloc (.cells #[.int .u8 0, .int .i64 (g : Int), .string ans, .slice none 0 0] 38)) x7 := hx7
  have hl6 : w6.heap.size < (w6.alloc (.cells #[.int .u8 0, .int .i64 (g : Int), .string ans, .slice none 0 0] 38)).heap.size := by simp
  have q0 : x7.cell? ⟨w6.heap.size, 0, none⟩ = some (.int .u8 0) := (hx7.cell hl6).trans (by simp [go_sem])
  have q1 : x7.cell? ⟨w6.heap.size, 1, none⟩ = some (.int .i64 (g : Int)) := (hx7.cell hl6).trans (by simp [go_sem])
  have q2 : x7.cell? ⟨w6.heap.size, 2, none⟩ = some (.string ans) := (hx7.cell hl6).trans (by simp [go_sem])
  have HB7 := hid_of ((bal HB6.out (.cells #[.int .u8 0, .int .i64 (g : Int), .string ans, .slice none 0 0] 38)).trans (hx7.mono (bal HB6.out (.cells #[.int .u8 0, .int .i64 (g : Int), .string ans, .slice none 0 0] 38)).size))
  clear HB6
  have HQ := hid_of (And.intro (Nat.lt_of_lt_of_le hl6 hx7.size) (And.intro q0 (And.intro q1 (And.intro q2 rr))))
  clear q0 q1 q2 rr hl6 hx7 hrow
  have HANS2 : Hid ((⟨(bys (fcalc (opsL.getD k 0) (na % M) (nb' % M) (nc % M)) 0).toArray⟩ : ByteArray) = ans) := HANS.out
  clear HANS
  generalize fcalc (opsL.getD k 0) (na % M) (nb' % M) (nc % M) = r at *
  simp only [fill, List.foldl_cons, List.foldl_nil, Act.put]
  simp only [List.setIfInBounds_toArray, List.set_cons_zero, List.set_cons_succ]
  go_wp2_with fail
  obtain ⟨hbr, q0, q1, q2, rr⟩ := HQ.out
  refine told_r13 (br := w6.heap.size) (bg := bg) (r := r) (g := g) (ans := ans) _ x7 hbr q0 q1 q2 rr HG.out.1 HG.out.2 HANS2.out (Below.refl _ _).drew rfl rfl rfl rfl ?_
  intro y hy
  have hy : Below x7.heap.size x7 y := hy
  have HB8 := hid_of (HB7.out.trans (hy.mono HB7.out.size))
  clear hy hbr q0 q1 q2 rr
  simp only [fill, List.foldl_cons, List.foldl_nil, Act.put]
  simp only [List.setIfInBounds_toArray, List.set_cons_zero, List.set_cons_succ]
  go_wp2
  go_ret
  exact ⟨rfl, HB8.out⟩
end
section
open Go.ChangeShapes Go.WideShapes Go.ChangeAt Go.RowKit
theorem own : ownKnob Tryz.prog.godebug = none := by kernel_rfl
theorem laidOut : laidOutB Tryz.prog = true := by kernel_rfl
theorem cells_word : Tryz.prog.cellsOf 24 = 4 := by kernel_rfl
theorem cells_limb : Tryz.prog.cellsOf 22 = 1 := by kernel_rfl
theorem list4 {α : Type} (l : List α) (h : (⟨l⟩ : Array α).size = 4) : ∃ a b c d, l = [a, b, c, d] := by
 match l, h with
 | [a, b, c, d], _ => exact ⟨a, b, c, d, rfl⟩
theorem limbs_word (x0 x1 x2 x3 : Nat) (h0 : x0 < 18446744073709551616) (h1 : x1 < 18446744073709551616) (h2 : x2 < 18446744073709551616) (h3 : x3 < 18446744073709551616) :
  ∃ n, wv n = .agg #[.int .u64 (x0 : Int), .int .u64 (x1 : Int), .int .u64 (x2 : Int), .int .u64 (x3 : Int)] := by
 refine ⟨x0 + 18446744073709551616 * (x1 + 18446744073709551616 * (x2 + 18446744073709551616 * x3)), ?_⟩
 have e0 : limb (x0 + 18446744073709551616 * (x1 + 18446744073709551616 * (x2 + 18446744073709551616 * x3))) 0 = (x0 : Int) := by unfold limb; rw [pw0]; omega
 have e1 : limb (x0 + 18446744073709551616 * (x1 + 18446744073709551616 * (x2 + 18446744073709551616 * x3))) 1 = (x1 : Int) := by unfold limb; rw [pw1]; omega
 have e2 : limb (x0 + 18446744073709551616 * (x1 + 18446744073709551616 * (x2 + 18446744073709551616 * x3))) 2 = (x2 : Int) := by unfold limb; rw [pw2]; omega
 have e3 : limb (x0 + 18446744073709551616 * (x1 + 18446744073709551616 * (x2 + 18446744073709551616 * x3))) 3 = (x3 : Int) := by unfold limb; rw [pw3]; omega
 unfold wv
 rw [e0, e1, e2, e3]
theorem u64_nat {x : Int} (h : (Lit.int .u64 x).wf = true) : ∃ n : Nat, x = (n : Int) ∧ n < 18446744073709551616 := by
 have hb := bounds_u64 h
 exact ⟨x.toNat, by omega, by omega⟩
set_option maxRecDepth 100000 in
theorem open_word {H : Type} {enc : TypeId × Value → H} {W : World} {base : Nat} {sp : Nat → Bool} {held : Bool} {v : Value} {d : DataW H} {p : List MemPlace} {b0 : Nat} (hv : Value.okWide Tryz.prog W .any base 24 v)
  (h : DataW.Trod enc Tryz.prog W b0 sp held 24 v d p) : ∃ n, v = wv n := by
 obtain ⟨cs, rfl, hsz, _⟩ : ∃ cs, v = .agg cs ∧ cs.size = Tryz.prog.cellsOf 24 ∧ Row.okWide Tryz.prog W .any base 24 cs := by
  simpa [Value.okWide, Tryz.underlying24] using hv
 rw [cells_word] at hsz
 obtain ⟨l⟩ := cs
 obtain ⟨c0, c1, c2, c3, rfl⟩ := list4 l hsz
 obtain ⟨fuel, hf⟩ := h
 obtain ⟨y0, y1, y2, y3, m, hx, hy0, hy1, hy2, hy3⟩ := trod_array4 Tryz.underlying24 cells_limb hf
 obtain ⟨x0, e0, rfl, w0⟩ := DataW.trod_int Tryz.underlying22 hy0
 obtain ⟨x1, e1, rfl, w1⟩ := DataW.trod_int Tryz.underlying22 hy1
 obtain ⟨x2, e2, rfl, w2⟩ := DataW.trod_int Tryz.underlying22 hy2
 obtain ⟨x3, e3, rfl, w3⟩ := DataW.trod_int Tryz.underlying22 hy3
 simp at e0 e1 e2 e3
 subst e0 e1 e2 e3
 obtain ⟨n0, rfl, l0⟩ := u64_nat w0
 obtain ⟨n1, rfl, l1⟩ := u64_nat w1
 obtain ⟨n2, rfl, l2⟩ := u64_nat w2
 obtain ⟨n3, rfl, l3⟩ := u64_nat w3
 obtain ⟨n, hn⟩ := limbs_word n0 n1 n2 n3 l0 l1 l2 l3
 exact ⟨n, hn.symm⟩
end
section
open Go.ChangeShapes Go.WideShapes Go.ChangeAt Go.RowKit
set_option maxRecDepth 100000
theorem zeroG : Tryz.prog.globalNamed "cinder/host.zero" = some 0 := by kernel_rfl
theorem zeroT : (Tryz.prog.globals[0]?).map (·.type) = some 24 := by kernel_rfl
theorem zero_cells {W : World} {fuel : Nat} {cs : Array Value} {p : List MemPlace} (hd : DataW.trod (fun _ => ()) Tryz.prog W 0 (fun _ => true) false fuel 24 cs.toList = some (Rows.laid_cinder_host_zero, p)) : cs = #[.int .u64 0, .int .u64 0, .int .u64 0, .int .u64 0] := by
 obtain ⟨l⟩ := cs
 cases fuel with
 | zero => simp [DataW.trod] at hd
 | succ fuel =>
  simp only [DataW.trod, Tryz.underlying24, cells_word, cells_limb] at hd
  split at hd
  ·rename_i hl
   obtain ⟨c0, c1, c2, c3, rfl⟩ : ∃ c0 c1 c2 c3, l = [c0, c1, c2, c3] := by
    match l, hl with
    | [a, b, c, d], _ => exact ⟨a, b, c, d, rfl⟩
   have e : List.range 4 = [0, 1, 2, 3] := rfl
   rw [e] at hd
   simp only [Option.map_eq_some_iff, List.mapM_cons, List.mapM_nil, Option.bind_eq_bind, Option.bind_eq_some_iff, Option.pure_def, Option.some.injEq] at hd
   obtain ⟨xs, ⟨y0, h0, _, ⟨y1, h1, _, ⟨y2, h2, _, ⟨y3, h3, _, rfl, rfl⟩, rfl⟩, rfl⟩, rfl⟩, hx⟩ := hd
   obtain ⟨x0, e0, rfl, w0⟩ := DataW.trod_int Tryz.underlying22 h0
   obtain ⟨x1, e1, rfl, w1⟩ := DataW.trod_int Tryz.underlying22 h1
   obtain ⟨x2, e2, rfl, w2⟩ := DataW.trod_int Tryz.underlying22 h2
   obtain ⟨x3, e3, rfl, w3⟩ := DataW.trod_int Tryz.underlying22 h3
   simp at e0 e1 e2 e3
   subst e0 e1 e2 e3
   simp [Rows.laid_cinder_host_zero] at hx
   obtain ⟨⟨rfl, rfl, rfl, rfl⟩, _⟩ := hx
   rfl
  ·cases hd
theorem zr_of_var {W : World} {cs : Array Value} (hvar : W.var? Tryz.prog "cinder/host.zero" = some cs) (hc : cs = #[.int .u64 0, .int .u64 0, .int .u64 0, .int .u64 0]) : Zr W := by
 subst hc
 unfold World.var? at hvar
 rw [zeroG] at hvar
 simp only [Option.bind_some] at hvar
 split at hvar
 ·rename_i cs t z hb
  obtain rfl := Option.some.inj hvar
  refine ⟨⟨?_, ?_, ?_, ?_⟩, (Array.getElem?_eq_some_iff.1 hb).1⟩ <;> simp [World.cell?, hb]
 ·cases hvar
theorem zr_of_laid {W : World} (h : laidMet Tryz.prog Rows.toldRow.laid W) : Zr W := by
 obtain ⟨ps, hlv, -, -⟩ := h
 have hlv : DataW.LaidVars Tryz.prog W [("math/bits.deBruijn32tab", Rows.laid_math_bits_deBruijn32tab), ("math/bits.deBruijn64tab", Rows.laid_math_bits_deBruijn64tab), ("internal/strconv.uint64pow10", Rows.laid_internal_strconv_uint64pow10), ("cinder/host.zero", Rows.laid_cinder_host_zero)] ps := hlv
 obtain ⟨_, _, _, _, _, _, _, _, _, _, hlv2, _⟩ := hlv
 obtain ⟨_, _, _, _, _, _, _, _, _, _, hlv3, _⟩ := hlv2
 obtain ⟨_, _, _, _, _, _, _, _, _, _, hlv4, _⟩ := hlv3
 obtain ⟨g, t, cs, fuel, p, q, hg, ht, hvar, hd, _, _⟩ := hlv4
 obtain rfl := Option.some.inj (zeroG.symm.trans hg)
 obtain rfl := Option.some.inj (zeroT.symm.trans ht)
 exact zr_of_var hvar (zero_cells hd)
end
end cin
end Go.Proofs.YtohoajjdoihekaaGreatDoor
