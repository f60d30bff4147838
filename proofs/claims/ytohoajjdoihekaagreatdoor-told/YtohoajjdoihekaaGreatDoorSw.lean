import Derived.Test.YtohoajjdoihekaaGreatDoorMk
import Derived.Lib.AppendZerosOnto
set_option linter.unusedVariables false
set_option linter.unusedSimpArgs false
namespace Go.Proofs.YtohoajjdoihekaaGreatDoor
namespace cin
section
open Go.RowKit Go.Maps
set_option maxHeartbeats 8000000
set_option maxRecDepth 100000
theorem own_balance : Own 156 := fun _ _ => by kernel_rfl
theorem own_reckon : Own 155 := fun _ _ => by kernel_rfl
theorem own_tset : Own 154 := fun _ _ => by kernel_rfl
def PhM (R : World → Prop) (w : World) : Nat → World → Prop
 | 0, x => Below w.heap.size w x
 | 1, x => Below w.heap.size w x
 | 2, x => Below w.heap.size w x
 | _, x => R x
theorem phm_low {R : World → Prop} {w x : World} {k : Nat} (h : PhM R w k x) (hk : k ≤ 2) : Below w.heap.size w x := by
 match k, hk, h with
 | 0, _, h => exact h
 | 1, _, h => exact h
 | 2, _, h => exact h
section
variable {tb fr amt bl v ba bf : Nat} {R : World → Prop} {s : Act} {x : World} {K : Act → World → Prop} {Q : Exit → Act → World → Prop} {ty1 : TypeId} {po1 : String} {af1 : Array Edge} {gd1 : Option (Nat × Bool)}
theorem move_r1_o0 (e0 : s.tmps.getD 0 undef = .pointer (some ⟨tb, 0, none⟩))  (hK : K (s.put (some 8) (.pointer (some ⟨tb, 0, none⟩))) x) :
  Oper.wp Tryz.prog ⟨some 8, .move (.tmp 0), ty1, po1, af1, gd1⟩ s x K Q := by
 have f0 : s.eval (.tmp 0) = _ := e0
 go_simp
 exact hK
theorem move_r1_o1 (e6 : s.tmps.getD 6 undef = .pointer (some ⟨bf, 0, none⟩)) (y0 : x.cell? ⟨bf, 0, none⟩ = some (.int .u64 (limb fr 0))) (y1 : x.cell? ⟨bf, 1, none⟩ = some (.int .u64 (limb fr 1))) (y2 : x.cell? ⟨bf, 2, none⟩ = some (.int .u64 (limb fr 2))) (y3 : x.cell? ⟨bf, 3, none⟩ = some (.int .u64 (limb fr 3))) (hK : K (s.put (some 9) (.agg #[.int .u64 (limb fr 0), .int .u64 (limb fr 1), .int .u64 (limb fr 2), .int .u64 (limb fr 3)])) x) :
  Oper.wp Tryz.prog ⟨some 9, .load 24 (.tmp 6), ty1, po1, af1, gd1⟩ s x K Q := by
 have f6 : s.eval (.tmp 6) = _ := e6
 go_simp
 exact hK
theorem move_r1_o2 (e9 : s.tmps.getD 9 undef = .agg #[.int .u64 (limb fr 0), .int .u64 (limb fr 1), .int .u64 (limb fr 2), .int .u64 (limb fr 3)])  (hK : K (s.put (some 10) (.agg #[.int .i64 0, .int .u64 (limb fr 0), .int .u64 (limb fr 1), .int .u64 (limb fr 2), .int .u64 (limb fr 3), .int .u64 0, .int .u64 0, .int .u64 0, .int .u64 0])) x) :
  Oper.wp Tryz.prog ⟨some 10, .build 217 #[(0, .const (.int .i64 0)), (1, .tmp 9)], ty1, po1, af1, gd1⟩ s x K Q := by
 have f9 : s.eval (.tmp 9) = _ := e9
 have g9 : s.tmps[9]?.getD undef = .agg #[.int .u64 (limb fr 0), .int .u64 (limb fr 1), .int .u64 (limb fr 2), .int .u64 (limb fr 3)] := by rw [← Array.getD_eq_getD_getElem?]; exact e9
 go_simp
 exact hK
theorem move_r1_o3 (e0 : s.tmps.getD 0 undef = .pointer (some ⟨tb, 0, none⟩))  (hK : K (s.put (some 11) (.pointer (some ⟨tb, 0, none⟩))) x) :
  Oper.wp Tryz.prog ⟨some 11, .move (.tmp 0), ty1, po1, af1, gd1⟩ s x K Q := by
 have f0 : s.eval (.tmp 0) = _ := e0
 go_simp
 exact hK
theorem move_r1_o4 (e6 : s.tmps.getD 6 undef = .pointer (some ⟨bf, 0, none⟩)) (y0 : x.cell? ⟨bf, 0, none⟩ = some (.int .u64 (limb fr 0))) (y1 : x.cell? ⟨bf, 1, none⟩ = some (.int .u64 (limb fr 1))) (y2 : x.cell? ⟨bf, 2, none⟩ = some (.int .u64 (limb fr 2))) (y3 : x.cell? ⟨bf, 3, none⟩ = some (.int .u64 (limb fr 3))) (hK : K (s.put (some 12) (.agg #[.int .u64 (limb fr 0), .int .u64 (limb fr 1), .int .u64 (limb fr 2), .int .u64 (limb fr 3)])) x) :
  Oper.wp Tryz.prog ⟨some 12, .load 24 (.tmp 6), ty1, po1, af1, gd1⟩ s x K Q := by
 have f6 : s.eval (.tmp 6) = _ := e6
 go_simp
 exact hK
theorem move_r1_o6 (e5 : s.tmps.getD 5 undef = .pointer (some ⟨ba, 0, none⟩)) (y0 : x.cell? ⟨ba, 0, none⟩ = some (.int .u64 (limb amt 0))) (y1 : x.cell? ⟨ba, 1, none⟩ = some (.int .u64 (limb amt 1))) (y2 : x.cell? ⟨ba, 2, none⟩ = some (.int .u64 (limb amt 2))) (y3 : x.cell? ⟨ba, 3, none⟩ = some (.int .u64 (limb amt 3))) (hK : K (s.put (some 14) (.agg #[.int .u64 (limb amt 0), .int .u64 (limb amt 1), .int .u64 (limb amt 2), .int .u64 (limb amt 3)])) x) :
  Oper.wp Tryz.prog ⟨some 14, .load 24 (.tmp 5), ty1, po1, af1, gd1⟩ s x K Q := by
 have f5 : s.eval (.tmp 5) = _ := e5
 go_simp
 exact hK
theorem move_r1 {tb fr amt bl v ba bf : Nat} {R : World → Prop} {Q : Exit → Act → World → Prop} (a : Act) (w : World) (ra : wrow w ba amt) (rf : wrow w bf fr) (hbal : ∀ x, Below w.heap.size w x → Calls Tryz.prog 156 #[.pointer (some ⟨tb, 0, none⟩), .agg #[.int .u64 (limb fr 0), .int .u64 (limb fr 1), .int .u64 (limb fr 2), .int .u64 (limb fr 3)]] x fun e w' => e = .returned (wv bl) ∧ Below x.heap.size x w') (hrec : ∀ x, Below w.heap.size w x → Calls Tryz.prog 155 #[.int .u8 3, wv bl, .agg #[.int .u64 (limb amt 0), .int .u64 (limb amt 1), .int .u64 (limb amt 2), .int .u64 (limb amt 3)]] x fun e w' => e = .returned (wv v) ∧ Below x.heap.size x w') (hset : ∀ x, Below w.heap.size w x → Calls Tryz.prog 154 #[.pointer (some ⟨tb, 0, none⟩), .agg #[.int .i64 0, .int .u64 (limb fr 0), .int .u64 (limb fr 1), .int .u64 (limb fr 2), .int .u64 (limb fr 3), .int .u64 0, .int .u64 0, .int .u64 0, .int .u64 0], wv v] x fun e w' => e = .returned (.tuple #[]) ∧ R w') (h0 : Below w.heap.size w w.drew) (hsz : decide (16 < a.tmps.size) = true) (c0 : a.tmps.getD 0 undef = .pointer (some ⟨tb, 0, none⟩)) (c5 : a.tmps.getD 5 undef = .pointer (some ⟨ba, 0, none⟩)) (c6 : a.tmps.getD 6 undef = .pointer (some ⟨bf, 0, none⟩))
  (hok : ∀ (x : World), (PhM R w) 3 x → Q .normal (fill a [(8, .pointer (some ⟨tb, 0, none⟩)), (9, .agg #[.int .u64 (limb fr 0), .int .u64 (limb fr 1), .int .u64 (limb fr 2), .int .u64 (limb fr 3)]), (10, .agg #[.int .i64 0, .int .u64 (limb fr 0), .int .u64 (limb fr 1), .int .u64 (limb fr 2), .int .u64 (limb fr 3), .int .u64 0, .int .u64 0, .int .u64 0, .int .u64 0]), (11, .pointer (some ⟨tb, 0, none⟩)), (12, .agg #[.int .u64 (limb fr 0), .int .u64 (limb fr 1), .int .u64 (limb fr 2), .int .u64 (limb fr 3)]), (13, wv bl), (14, .agg #[.int .u64 (limb amt 0), .int .u64 (limb amt 1), .int .u64 (limb amt 2), .int .u64 (limb amt 3)]), (15, wv v), (16, Value.tuple #[])]) x) :
  (Code.region 1 #[⟨some 8, .move (.tmp 0), 96, "trail.go:93", #[], none⟩, ⟨some 9, .load 24 (.tmp 6), 24, "trail.go:93", #[], none⟩, ⟨some 10, .build 217 #[(0, .const (.int .i64 0)), (1, .tmp 9)], 217, "trail.go:93", #[⟨1, .data⟩], none⟩, ⟨some 11, .move (.tmp 0), 96, "trail.go:93", #[], none⟩, ⟨some 12, .load 24 (.tmp 6), 24, "trail.go:93", #[], none⟩, ⟨some 13, .call ⟨.value (.func 156), #[.tmp 11, .tmp 12], #[96, 24]⟩, 24, "trail.go:93", #[⟨3, .data⟩, ⟨4, .data⟩], none⟩, ⟨some 14, .load 24 (.tmp 5), 24, "trail.go:93", #[], none⟩, ⟨some 15, .call ⟨.value (.func 155), #[.const (.int .u8 3), .tmp 13, .tmp 14], #[5, 24, 24]⟩, 24, "trail.go:93", #[⟨5, .data⟩, ⟨6, .data⟩, ⟨5, .chain⟩], none⟩, ⟨some 16, .call ⟨.value (.func 154), #[.tmp 8, .tmp 10, .tmp 15], #[96, 217, 24]⟩, 0, "trail.go:93", #[⟨0, .data⟩, ⟨2, .data⟩, ⟨7, .data⟩, ⟨7, .chain⟩], none⟩] true).wp Tryz.prog Q a w := by
 have hsz := of_decide_eq_true hsz
 refine wp_region_ph (by kernel_rfl) (by kernel_rfl) (PhM R w) (fun _ _ _ => True) [(some 8, Cp (.pointer (some ⟨tb, 0, none⟩))), (some 9, Cp (.agg #[.int .u64 (limb fr 0), .int .u64 (limb fr 1), .int .u64 (limb fr 2), .int .u64 (limb fr 3)])), (some 10, Cp (.agg #[.int .i64 0, .int .u64 (limb fr 0), .int .u64 (limb fr 1), .int .u64 (limb fr 2), .int .u64 (limb fr 3), .int .u64 0, .int .u64 0, .int .u64 0, .int .u64 0])), (some 11, Cp (.pointer (some ⟨tb, 0, none⟩))), (some 12, Cp (.agg #[.int .u64 (limb fr 0), .int .u64 (limb fr 1), .int .u64 (limb fr 2), .int .u64 (limb fr 3)])), (some 13, Cp (wv bl)), (some 14, Cp (.agg #[.int .u64 (limb amt 0), .int .u64 (limb amt 1), .int .u64 (limb amt 2), .int .u64 (limb amt 3)])), (some 15, Cp (wv v)), (some 16, Cp (Value.tuple #[]))] [5, 7, 8] rfl (by rfl) ?_ ?_ [(0, .pointer (some ⟨tb, 0, none⟩)), (5, .pointer (some ⟨ba, 0, none⟩)), (6, .pointer (some ⟨bf, 0, none⟩))] ?_ (by rfl) (by kernel_rfl) (by rfl) (by rfl) ?_ ?_ ?_ ?_
 ·refine List.all_eq_true.2 fun d hd => decide_eq_true ?_
  have hd2 : d ∈ ([8, 9, 10, 11, 12, 13, 14, 15, 16] : List Nat) := hd
  simp at hd2
  omega
 ·exact h0
 ·intro p hp
  simp only [List.mem_cons, List.not_mem_nil, or_false] at hp
  rcases hp with rfl | rfl | rfl
  ·exact c0
  ·exact c5
  ·exact c6
 ·intro j d T hj p v x x' hne hpl hph hrel ht
  have hjl : j < 9 := (List.getElem?_eq_some_iff.1 hj).1
  rcases ltq9 hjl with rfl | rfl | rfl | rfl | rfl | rfl | rfl | rfl | rfl
  ·obtain ⟨rfl, rfl⟩ := pk hj
   exact ht
  ·obtain ⟨rfl, rfl⟩ := pk hj
   exact ht
  ·obtain ⟨rfl, rfl⟩ := pk hj
   exact ht
  ·obtain ⟨rfl, rfl⟩ := pk hj
   exact ht
  ·obtain ⟨rfl, rfl⟩ := pk hj
   exact ht
  ·obtain ⟨rfl, rfl⟩ := pk hj
   exact ht
  ·obtain ⟨rfl, rfl⟩ := pk hj
   exact ht
  ·obtain ⟨rfl, rfl⟩ := pk hj
   exact ht
  ·obtain ⟨rfl, rfl⟩ := pk hj
   exact ht
 ·intro i o d T ho ht hic k s x hk hlo hhi hph hdf hb hdep
  have hi : i < 9 := (Array.getElem?_eq_some_iff.1 ho).1
  rcases ltq9 hi with rfl | rfl | rfl | rfl | rfl | rfl | rfl | rfl | rfl
  ·obtain rfl := sj ho
   obtain ⟨rfl, rfl⟩ := pk ht
   refine ⟨want_none rfl, fun K hK => ?_⟩
   exact move_r1_o0 (hb (0, .pointer (some ⟨tb, 0, none⟩)) (List.Mem.head _))  (hK _ nn1 rfl)
  ·obtain rfl := sj ho
   obtain ⟨rfl, rfl⟩ := pk ht
   refine ⟨want_none rfl, fun K hK => ?_⟩
   obtain ⟨y0, y1, y2, y3⟩ := row_cells4 (row_below rf (phm_low hph (by have := hhi 2 8 rfl (by kernel_rfl); omega)))
   exact move_r1_o1 (hb (6, .pointer (some ⟨bf, 0, none⟩)) (List.Mem.tail _ (List.Mem.tail _ (List.Mem.head _)))) y0 y1 y2 y3 (hK _ nn1 rfl)
  ·obtain rfl := sj ho
   obtain ⟨rfl, rfl⟩ := pk ht
   refine ⟨want_none rfl, fun K hK => ?_⟩
   exact move_r1_o2 (hdep ⟨1, .data⟩ (by simp) rfl _ _ rfl)  (hK _ nn1 rfl)
  ·obtain rfl := sj ho
   obtain ⟨rfl, rfl⟩ := pk ht
   refine ⟨want_none rfl, fun K hK => ?_⟩
   exact move_r1_o3 (hb (0, .pointer (some ⟨tb, 0, none⟩)) (List.Mem.head _))  (hK _ nn1 rfl)
  ·obtain rfl := sj ho
   obtain ⟨rfl, rfl⟩ := pk ht
   refine ⟨want_none rfl, fun K hK => ?_⟩
   obtain ⟨y0, y1, y2, y3⟩ := row_cells4 (row_below rf (phm_low hph (by have := hhi 0 5 rfl (by kernel_rfl); omega)))
   exact move_r1_o4 (hb (6, .pointer (some ⟨bf, 0, none⟩)) (List.Mem.tail _ (List.Mem.tail _ (List.Mem.head _)))) y0 y1 y2 y3 (hK _ nn1 rfl)
  ·exact absurd (by simp) hic
  ·obtain rfl := sj ho
   obtain ⟨rfl, rfl⟩ := pk ht
   refine ⟨want_none rfl, fun K hK => ?_⟩
   obtain ⟨y0, y1, y2, y3⟩ := row_cells4 (row_below ra (phm_low hph (by have := hhi 1 7 rfl (by kernel_rfl); omega)))
   exact move_r1_o6 (hb (5, .pointer (some ⟨ba, 0, none⟩)) (List.Mem.tail _ (List.Mem.head _))) y0 y1 y2 y3 (hK _ nn1 rfl)
  ·exact absurd (by simp) hic
  ·exact absurd (by simp) hic
 ·intro p i o d T hp ho ht s x hph hdf hb hdep
  have hpl : p < 3 := (List.getElem?_eq_some_iff.1 hp).1
  rcases ltq3 hpl with rfl | rfl | rfl
  ·obtain rfl := sj hp
   obtain rfl := sj ho
   obtain ⟨rfl, rfl⟩ := pk ht
   refine ⟨want_none rfl, fun K hK => ?_⟩
   refine st_call own_balance (ev2 (hdep ⟨3, .data⟩ (by simp) rfl _ _ rfl) (hdep ⟨4, .data⟩ (by simp) rfl _ _ rfl)) (hbal x hph) ?_
   rintro e y ⟨rfl, hB⟩
   have hph : Below w.heap.size w x := hph
   exact ⟨_, rfl, hK _ y (hph.trans (hB.mono hph.size)) trivial nn1 rfl⟩
  ·obtain rfl := sj hp
   obtain rfl := sj ho
   obtain ⟨rfl, rfl⟩ := pk ht
   refine ⟨want_none rfl, fun K hK => ?_⟩
   refine st_call own_reckon (ev3 rfl (hdep ⟨5, .data⟩ (by simp) rfl _ _ rfl) (hdep ⟨6, .data⟩ (by simp) rfl _ _ rfl)) (hrec x hph) ?_
   rintro e y ⟨rfl, hB⟩
   have hph : Below w.heap.size w x := hph
   exact ⟨_, rfl, hK _ y (hph.trans (hB.mono hph.size)) trivial nn1 rfl⟩
  ·obtain rfl := sj hp
   obtain rfl := sj ho
   obtain ⟨rfl, rfl⟩ := pk ht
   refine ⟨want_none rfl, fun K hK => ?_⟩
   refine st_call own_tset (ev3 (hdep ⟨0, .data⟩ (by simp) rfl _ _ rfl) (hdep ⟨2, .data⟩ (by simp) rfl _ _ rfl) (hdep ⟨7, .data⟩ (by simp) rfl _ _ rfl)) (hset x hph) ?_
   rintro e y ⟨rfl, hR⟩
   exact ⟨_, rfl, hK _ y hR trivial nn1 rfl⟩
 ·intro vs x hph hl hT
  obtain ⟨v0, v1, v2, v3, v4, v5, v6, v7, v8, rfl⟩ := lenq9 hl
  obtain rfl : v0 = .pointer (some ⟨tb, 0, none⟩) := hT 0 _ _ rfl
  obtain rfl : v1 = .agg #[.int .u64 (limb fr 0), .int .u64 (limb fr 1), .int .u64 (limb fr 2), .int .u64 (limb fr 3)] := hT 1 _ _ rfl
  obtain rfl : v2 = .agg #[.int .i64 0, .int .u64 (limb fr 0), .int .u64 (limb fr 1), .int .u64 (limb fr 2), .int .u64 (limb fr 3), .int .u64 0, .int .u64 0, .int .u64 0, .int .u64 0] := hT 2 _ _ rfl
  obtain rfl : v3 = .pointer (some ⟨tb, 0, none⟩) := hT 3 _ _ rfl
  obtain rfl : v4 = .agg #[.int .u64 (limb fr 0), .int .u64 (limb fr 1), .int .u64 (limb fr 2), .int .u64 (limb fr 3)] := hT 4 _ _ rfl
  obtain rfl : v5 = wv bl := hT 5 _ _ rfl
  obtain rfl : v6 = .agg #[.int .u64 (limb amt 0), .int .u64 (limb amt 1), .int .u64 (limb amt 2), .int .u64 (limb amt 3)] := hT 6 _ _ rfl
  obtain rfl : v7 = wv v := hT 7 _ _ rfl
  obtain rfl : v8 = Value.tuple #[] := hT 8 _ _ rfl
  exact hok x hph
end
section
variable {tb fr amt bl v ba bf : Nat} {R : World → Prop} {s : Act} {x : World} {K : Act → World → Prop} {Q : Exit → Act → World → Prop} {ty1 : TypeId} {po1 : String} {af1 : Array Edge} {gd1 : Option (Nat × Bool)}
theorem move_r2_o0 (e0 : s.tmps.getD 0 undef = .pointer (some ⟨tb, 0, none⟩))  (hK : K (s.put (some 17) (.pointer (some ⟨tb, 0, none⟩))) x) :
  Oper.wp Tryz.prog ⟨some 17, .move (.tmp 0), ty1, po1, af1, gd1⟩ s x K Q := by
 have f0 : s.eval (.tmp 0) = _ := e0
 go_simp
 exact hK
theorem move_r2_o1 (e7 : s.tmps.getD 7 undef = .pointer (some ⟨bf, 0, none⟩)) (y0 : x.cell? ⟨bf, 0, none⟩ = some (.int .u64 (limb fr 0))) (y1 : x.cell? ⟨bf, 1, none⟩ = some (.int .u64 (limb fr 1))) (y2 : x.cell? ⟨bf, 2, none⟩ = some (.int .u64 (limb fr 2))) (y3 : x.cell? ⟨bf, 3, none⟩ = some (.int .u64 (limb fr 3))) (hK : K (s.put (some 18) (.agg #[.int .u64 (limb fr 0), .int .u64 (limb fr 1), .int .u64 (limb fr 2), .int .u64 (limb fr 3)])) x) :
  Oper.wp Tryz.prog ⟨some 18, .load 24 (.tmp 7), ty1, po1, af1, gd1⟩ s x K Q := by
 have f7 : s.eval (.tmp 7) = _ := e7
 go_simp
 exact hK
theorem move_r2_o2 (e18 : s.tmps.getD 18 undef = .agg #[.int .u64 (limb fr 0), .int .u64 (limb fr 1), .int .u64 (limb fr 2), .int .u64 (limb fr 3)])  (hK : K (s.put (some 19) (.agg #[.int .i64 0, .int .u64 (limb fr 0), .int .u64 (limb fr 1), .int .u64 (limb fr 2), .int .u64 (limb fr 3), .int .u64 0, .int .u64 0, .int .u64 0, .int .u64 0])) x) :
  Oper.wp Tryz.prog ⟨some 19, .build 217 #[(0, .const (.int .i64 0)), (1, .tmp 18)], ty1, po1, af1, gd1⟩ s x K Q := by
 have f18 : s.eval (.tmp 18) = _ := e18
 have g18 : s.tmps[18]?.getD undef = .agg #[.int .u64 (limb fr 0), .int .u64 (limb fr 1), .int .u64 (limb fr 2), .int .u64 (limb fr 3)] := by rw [← Array.getD_eq_getD_getElem?]; exact e18
 go_simp
 exact hK
theorem move_r2_o3 (e0 : s.tmps.getD 0 undef = .pointer (some ⟨tb, 0, none⟩))  (hK : K (s.put (some 20) (.pointer (some ⟨tb, 0, none⟩))) x) :
  Oper.wp Tryz.prog ⟨some 20, .move (.tmp 0), ty1, po1, af1, gd1⟩ s x K Q := by
 have f0 : s.eval (.tmp 0) = _ := e0
 go_simp
 exact hK
theorem move_r2_o4 (e7 : s.tmps.getD 7 undef = .pointer (some ⟨bf, 0, none⟩)) (y0 : x.cell? ⟨bf, 0, none⟩ = some (.int .u64 (limb fr 0))) (y1 : x.cell? ⟨bf, 1, none⟩ = some (.int .u64 (limb fr 1))) (y2 : x.cell? ⟨bf, 2, none⟩ = some (.int .u64 (limb fr 2))) (y3 : x.cell? ⟨bf, 3, none⟩ = some (.int .u64 (limb fr 3))) (hK : K (s.put (some 21) (.agg #[.int .u64 (limb fr 0), .int .u64 (limb fr 1), .int .u64 (limb fr 2), .int .u64 (limb fr 3)])) x) :
  Oper.wp Tryz.prog ⟨some 21, .load 24 (.tmp 7), ty1, po1, af1, gd1⟩ s x K Q := by
 have f7 : s.eval (.tmp 7) = _ := e7
 go_simp
 exact hK
theorem move_r2_o6 (e5 : s.tmps.getD 5 undef = .pointer (some ⟨ba, 0, none⟩)) (y0 : x.cell? ⟨ba, 0, none⟩ = some (.int .u64 (limb amt 0))) (y1 : x.cell? ⟨ba, 1, none⟩ = some (.int .u64 (limb amt 1))) (y2 : x.cell? ⟨ba, 2, none⟩ = some (.int .u64 (limb amt 2))) (y3 : x.cell? ⟨ba, 3, none⟩ = some (.int .u64 (limb amt 3))) (hK : K (s.put (some 23) (.agg #[.int .u64 (limb amt 0), .int .u64 (limb amt 1), .int .u64 (limb amt 2), .int .u64 (limb amt 3)])) x) :
  Oper.wp Tryz.prog ⟨some 23, .load 24 (.tmp 5), ty1, po1, af1, gd1⟩ s x K Q := by
 have f5 : s.eval (.tmp 5) = _ := e5
 go_simp
 exact hK
theorem move_r2 {tb fr amt bl v ba bf : Nat} {R : World → Prop} {Q : Exit → Act → World → Prop} (a : Act) (w : World) (ra : wrow w ba amt) (rf : wrow w bf fr) (hbal : ∀ x, Below w.heap.size w x → Calls Tryz.prog 156 #[.pointer (some ⟨tb, 0, none⟩), .agg #[.int .u64 (limb fr 0), .int .u64 (limb fr 1), .int .u64 (limb fr 2), .int .u64 (limb fr 3)]] x fun e w' => e = .returned (wv bl) ∧ Below x.heap.size x w') (hrec : ∀ x, Below w.heap.size w x → Calls Tryz.prog 155 #[.int .u8 1, wv bl, .agg #[.int .u64 (limb amt 0), .int .u64 (limb amt 1), .int .u64 (limb amt 2), .int .u64 (limb amt 3)]] x fun e w' => e = .returned (wv v) ∧ Below x.heap.size x w') (hset : ∀ x, Below w.heap.size w x → Calls Tryz.prog 154 #[.pointer (some ⟨tb, 0, none⟩), .agg #[.int .i64 0, .int .u64 (limb fr 0), .int .u64 (limb fr 1), .int .u64 (limb fr 2), .int .u64 (limb fr 3), .int .u64 0, .int .u64 0, .int .u64 0, .int .u64 0], wv v] x fun e w' => e = .returned (.tuple #[]) ∧ R w') (h0 : Below w.heap.size w w.drew) (hsz : decide (25 < a.tmps.size) = true) (c0 : a.tmps.getD 0 undef = .pointer (some ⟨tb, 0, none⟩)) (c5 : a.tmps.getD 5 undef = .pointer (some ⟨ba, 0, none⟩)) (c7 : a.tmps.getD 7 undef = .pointer (some ⟨bf, 0, none⟩))
  (hok : ∀ (x : World), (PhM R w) 3 x → Q .normal (fill a [(17, .pointer (some ⟨tb, 0, none⟩)), (18, .agg #[.int .u64 (limb fr 0), .int .u64 (limb fr 1), .int .u64 (limb fr 2), .int .u64 (limb fr 3)]), (19, .agg #[.int .i64 0, .int .u64 (limb fr 0), .int .u64 (limb fr 1), .int .u64 (limb fr 2), .int .u64 (limb fr 3), .int .u64 0, .int .u64 0, .int .u64 0, .int .u64 0]), (20, .pointer (some ⟨tb, 0, none⟩)), (21, .agg #[.int .u64 (limb fr 0), .int .u64 (limb fr 1), .int .u64 (limb fr 2), .int .u64 (limb fr 3)]), (22, wv bl), (23, .agg #[.int .u64 (limb amt 0), .int .u64 (limb amt 1), .int .u64 (limb amt 2), .int .u64 (limb amt 3)]), (24, wv v), (25, Value.tuple #[])]) x) :
  (Code.region 2 #[⟨some 17, .move (.tmp 0), 96, "trail.go:94", #[], none⟩, ⟨some 18, .load 24 (.tmp 7), 24, "trail.go:94", #[], none⟩, ⟨some 19, .build 217 #[(0, .const (.int .i64 0)), (1, .tmp 18)], 217, "trail.go:94", #[⟨1, .data⟩], none⟩, ⟨some 20, .move (.tmp 0), 96, "trail.go:94", #[], none⟩, ⟨some 21, .load 24 (.tmp 7), 24, "trail.go:94", #[], none⟩, ⟨some 22, .call ⟨.value (.func 156), #[.tmp 20, .tmp 21], #[96, 24]⟩, 24, "trail.go:94", #[⟨3, .data⟩, ⟨4, .data⟩], none⟩, ⟨some 23, .load 24 (.tmp 5), 24, "trail.go:94", #[], none⟩, ⟨some 24, .call ⟨.value (.func 155), #[.const (.int .u8 1), .tmp 22, .tmp 23], #[5, 24, 24]⟩, 24, "trail.go:94", #[⟨5, .data⟩, ⟨6, .data⟩, ⟨5, .chain⟩], none⟩, ⟨some 25, .call ⟨.value (.func 154), #[.tmp 17, .tmp 19, .tmp 24], #[96, 217, 24]⟩, 0, "trail.go:94", #[⟨0, .data⟩, ⟨2, .data⟩, ⟨7, .data⟩, ⟨7, .chain⟩], none⟩] true).wp Tryz.prog Q a w := by
 have hsz := of_decide_eq_true hsz
 refine wp_region_ph (by kernel_rfl) (by kernel_rfl) (PhM R w) (fun _ _ _ => True) [(some 17, Cp (.pointer (some ⟨tb, 0, none⟩))), (some 18, Cp (.agg #[.int .u64 (limb fr 0), .int .u64 (limb fr 1), .int .u64 (limb fr 2), .int .u64 (limb fr 3)])), (some 19, Cp (.agg #[.int .i64 0, .int .u64 (limb fr 0), .int .u64 (limb fr 1), .int .u64 (limb fr 2), .int .u64 (limb fr 3), .int .u64 0, .int .u64 0, .int .u64 0, .int .u64 0])), (some 20, Cp (.pointer (some ⟨tb, 0, none⟩))), (some 21, Cp (.agg #[.int .u64 (limb fr 0), .int .u64 (limb fr 1), .int .u64 (limb fr 2), .int .u64 (limb fr 3)])), (some 22, Cp (wv bl)), (some 23, Cp (.agg #[.int .u64 (limb amt 0), .int .u64 (limb amt 1), .int .u64 (limb amt 2), .int .u64 (limb amt 3)])), (some 24, Cp (wv v)), (some 25, Cp (Value.tuple #[]))] [5, 7, 8] rfl (by rfl) ?_ ?_ [(0, .pointer (some ⟨tb, 0, none⟩)), (5, .pointer (some ⟨ba, 0, none⟩)), (7, .pointer (some ⟨bf, 0, none⟩))] ?_ (by rfl) (by kernel_rfl) (by rfl) (by rfl) ?_ ?_ ?_ ?_
 ·refine List.all_eq_true.2 fun d hd => decide_eq_true ?_
  have hd2 : d ∈ ([17, 18, 19, 20, 21, 22, 23, 24, 25] : List Nat) := hd
  simp at hd2
  omega
 ·exact h0
 ·intro p hp
  simp only [List.mem_cons, List.not_mem_nil, or_false] at hp
  rcases hp with rfl | rfl | rfl
  ·exact c0
  ·exact c5
  ·exact c7
 ·intro j d T hj p v x x' hne hpl hph hrel ht
  have hjl : j < 9 := (List.getElem?_eq_some_iff.1 hj).1
  rcases ltq9 hjl with rfl | rfl | rfl | rfl | rfl | rfl | rfl | rfl | rfl
  ·obtain ⟨rfl, rfl⟩ := pk hj
   exact ht
  ·obtain ⟨rfl, rfl⟩ := pk hj
   exact ht
  ·obtain ⟨rfl, rfl⟩ := pk hj
   exact ht
  ·obtain ⟨rfl, rfl⟩ := pk hj
   exact ht
  ·obtain ⟨rfl, rfl⟩ := pk hj
   exact ht
  ·obtain ⟨rfl, rfl⟩ := pk hj
   exact ht
  ·obtain ⟨rfl, rfl⟩ := pk hj
   exact ht
  ·obtain ⟨rfl, rfl⟩ := pk hj
   exact ht
  ·obtain ⟨rfl, rfl⟩ := pk hj
   exact ht
 ·intro i o d T ho ht hic k s x hk hlo hhi hph hdf hb hdep
  have hi : i < 9 := (Array.getElem?_eq_some_iff.1 ho).1
  rcases ltq9 hi with rfl | rfl | rfl | rfl | rfl | rfl | rfl | rfl | rfl
  ·obtain rfl := sj ho
   obtain ⟨rfl, rfl⟩ := pk ht
   refine ⟨want_none rfl, fun K hK => ?_⟩
   exact move_r2_o0 (hb (0, .pointer (some ⟨tb, 0, none⟩)) (List.Mem.head _))  (hK _ nn1 rfl)
  ·obtain rfl := sj ho
   obtain ⟨rfl, rfl⟩ := pk ht
   refine ⟨want_none rfl, fun K hK => ?_⟩
   obtain ⟨y0, y1, y2, y3⟩ := row_cells4 (row_below rf (phm_low hph (by have := hhi 2 8 rfl (by kernel_rfl); omega)))
   exact move_r2_o1 (hb (7, .pointer (some ⟨bf, 0, none⟩)) (List.Mem.tail _ (List.Mem.tail _ (List.Mem.head _)))) y0 y1 y2 y3 (hK _ nn1 rfl)
  ·obtain rfl := sj ho
   obtain ⟨rfl, rfl⟩ := pk ht
   refine ⟨want_none rfl, fun K hK => ?_⟩
   exact move_r2_o2 (hdep ⟨1, .data⟩ (by simp) rfl _ _ rfl)  (hK _ nn1 rfl)
  ·obtain rfl := sj ho
   obtain ⟨rfl, rfl⟩ := pk ht
   refine ⟨want_none rfl, fun K hK => ?_⟩
   exact move_r2_o3 (hb (0, .pointer (some ⟨tb, 0, none⟩)) (List.Mem.head _))  (hK _ nn1 rfl)
  ·obtain rfl := sj ho
   obtain ⟨rfl, rfl⟩ := pk ht
   refine ⟨want_none rfl, fun K hK => ?_⟩
   obtain ⟨y0, y1, y2, y3⟩ := row_cells4 (row_below rf (phm_low hph (by have := hhi 0 5 rfl (by kernel_rfl); omega)))
   exact move_r2_o4 (hb (7, .pointer (some ⟨bf, 0, none⟩)) (List.Mem.tail _ (List.Mem.tail _ (List.Mem.head _)))) y0 y1 y2 y3 (hK _ nn1 rfl)
  ·exact absurd (by simp) hic
  ·obtain rfl := sj ho
   obtain ⟨rfl, rfl⟩ := pk ht
   refine ⟨want_none rfl, fun K hK => ?_⟩
   obtain ⟨y0, y1, y2, y3⟩ := row_cells4 (row_below ra (phm_low hph (by have := hhi 1 7 rfl (by kernel_rfl); omega)))
   exact move_r2_o6 (hb (5, .pointer (some ⟨ba, 0, none⟩)) (List.Mem.tail _ (List.Mem.head _))) y0 y1 y2 y3 (hK _ nn1 rfl)
  ·exact absurd (by simp) hic
  ·exact absurd (by simp) hic
 ·intro p i o d T hp ho ht s x hph hdf hb hdep
  have hpl : p < 3 := (List.getElem?_eq_some_iff.1 hp).1
  rcases ltq3 hpl with rfl | rfl | rfl
  ·obtain rfl := sj hp
   obtain rfl := sj ho
   obtain ⟨rfl, rfl⟩ := pk ht
   refine ⟨want_none rfl, fun K hK => ?_⟩
   refine st_call own_balance (ev2 (hdep ⟨3, .data⟩ (by simp) rfl _ _ rfl) (hdep ⟨4, .data⟩ (by simp) rfl _ _ rfl)) (hbal x hph) ?_
   rintro e y ⟨rfl, hB⟩
   have hph : Below w.heap.size w x := hph
   exact ⟨_, rfl, hK _ y (hph.trans (hB.mono hph.size)) trivial nn1 rfl⟩
  ·obtain rfl := sj hp
   obtain rfl := sj ho
   obtain ⟨rfl, rfl⟩ := pk ht
   refine ⟨want_none rfl, fun K hK => ?_⟩
   refine st_call own_reckon (ev3 rfl (hdep ⟨5, .data⟩ (by simp) rfl _ _ rfl) (hdep ⟨6, .data⟩ (by simp) rfl _ _ rfl)) (hrec x hph) ?_
   rintro e y ⟨rfl, hB⟩
   have hph : Below w.heap.size w x := hph
   exact ⟨_, rfl, hK _ y (hph.trans (hB.mono hph.size)) trivial nn1 rfl⟩
  ·obtain rfl := sj hp
   obtain rfl := sj ho
   obtain ⟨rfl, rfl⟩ := pk ht
   refine ⟨want_none rfl, fun K hK => ?_⟩
   refine st_call own_tset (ev3 (hdep ⟨0, .data⟩ (by simp) rfl _ _ rfl) (hdep ⟨2, .data⟩ (by simp) rfl _ _ rfl) (hdep ⟨7, .data⟩ (by simp) rfl _ _ rfl)) (hset x hph) ?_
   rintro e y ⟨rfl, hR⟩
   exact ⟨_, rfl, hK _ y hR trivial nn1 rfl⟩
 ·intro vs x hph hl hT
  obtain ⟨v0, v1, v2, v3, v4, v5, v6, v7, v8, rfl⟩ := lenq9 hl
  obtain rfl : v0 = .pointer (some ⟨tb, 0, none⟩) := hT 0 _ _ rfl
  obtain rfl : v1 = .agg #[.int .u64 (limb fr 0), .int .u64 (limb fr 1), .int .u64 (limb fr 2), .int .u64 (limb fr 3)] := hT 1 _ _ rfl
  obtain rfl : v2 = .agg #[.int .i64 0, .int .u64 (limb fr 0), .int .u64 (limb fr 1), .int .u64 (limb fr 2), .int .u64 (limb fr 3), .int .u64 0, .int .u64 0, .int .u64 0, .int .u64 0] := hT 2 _ _ rfl
  obtain rfl : v3 = .pointer (some ⟨tb, 0, none⟩) := hT 3 _ _ rfl
  obtain rfl : v4 = .agg #[.int .u64 (limb fr 0), .int .u64 (limb fr 1), .int .u64 (limb fr 2), .int .u64 (limb fr 3)] := hT 4 _ _ rfl
  obtain rfl : v5 = wv bl := hT 5 _ _ rfl
  obtain rfl : v6 = .agg #[.int .u64 (limb amt 0), .int .u64 (limb amt 1), .int .u64 (limb amt 2), .int .u64 (limb amt 3)] := hT 6 _ _ rfl
  obtain rfl : v7 = wv v := hT 7 _ _ rfl
  obtain rfl : v8 = Value.tuple #[] := hT 8 _ _ rfl
  exact hok x hph
end
end
section
open Go.RowKit Go.Maps
set_option maxRecDepth 100000
theorem Tr.lt {base tb : Nat} {T : TS} {V : TV} {w : World} (h : Tr base tb T V w) {k : Nat} (hk : Tfoot tb T V k) : k < w.heap.size := by
 rcases hk with e | e | e | e | e | ⟨t, ht, e⟩
 ·rw [e]; exact h.row.lt
 ·exact h.acc.lt e
 ·rw [e]; exact h.pas.lt
 ·exact (h.ch.lt k e).2
 ·exact (h.lo.2.1.lt k e).2
 ·obtain ⟨l, hl⟩ := h.lo.tv ht
  exact (hl.lt k e).2
def moveA (T : TS) (amt fr : Nat) : TS := setT T 0 fr 0 (fcalc 3 ((T.acc fr).bal % M) (amt % M) 0)
def moveB (T : TS) (amt tt : Nat) : TS := setT T 0 tt 0 (fcalc 1 ((T.acc tt).bal % M) (amt % M) 0)
def moveT (T : TS) (amt fr tt : Nat) : TS := moveB (moveA T amt fr) amt tt
theorem set_money0 {base tb : Nat} {T : TS} {V : TV} (at' v : Nat) (w : World) (h : Tr base tb T V w) (hl : T.ch.length < 1000000000) (hn : V.n < 1000000000) :
  Calls Tryz.prog 154 #[.pointer (some ⟨tb, 0, none⟩), .agg #[.int .i64 0, .int .u64 (limb at' 0), .int .u64 (limb at' 1), .int .u64 (limb at' 2), .int .u64 (limb at' 3), .int .u64 0, .int .u64 0, .int .u64 0, .int .u64 0], wv v] w fun e w' => e = .returned (.tuple #[]) ∧ TTo base tb T V (setT T 0 at' 0 v) 2 w w' := by
 have hs := set_money at' 0 v w h hl hn
 unfold cellV cellC at hs
 simp only [limb_zero] at hs
 exact hs
theorem setT_ch (T : TS) (kind a key v : Nat) : (setT T kind a key v).ch.length = T.ch.length + 1 := by
 unfold setT putT
 split
 ·simp
 ·split <;> simp
set_option maxHeartbeats 8000000 in
theorem move_any {base tb : Nat} {T : TS} {V : TV} (amt fr tt : Nat) (w : World) (h : Tr base tb T V w) (hl : T.ch.length < 999999990) (hn : V.n < 999999990) :
  Calls Tryz.prog 94 #[.pointer (some ⟨tb, 0, none⟩), wv amt, wv fr, wv tt] w fun e w' => e = .returned (.tuple #[]) ∧ TTo base tb T V (moveT T amt fr tt) 4 w w' := by
 go_enter Tryz.func94, Tryz.ntmps94
 go_wp2
 have hB : Below w.heap.size w (b3 w amt fr tt) := b3_below w amt fr tt
 have h2 := h.below hB
 have ra : wrow (b3 w amt fr tt) w.heap.size amt := row_below (row_below (wrow_new w amt) (bal (Below.refl _ _) _)) (bal (Below.refl _ _) _)
 have rf : wrow (b3 w amt fr tt) (w.heap.size + 1) fr := by
  have := row_below (wrow_new (w.alloc (wc amt)) fr) (bal (Below.refl _ _) (wc tt))
  rw [show (w.alloc (wc amt)).heap.size = w.heap.size + 1 by simp] at this
  exact this
 have rt : wrow (b3 w amt fr tt) (w.heap.size + 1 + 1) tt := by
  have := wrow_new ((w.alloc (wc amt)).alloc (wc fr)) tt
  rw [show ((w.alloc (wc amt)).alloc (wc fr)).heap.size = w.heap.size + 1 + 1 by simp] at this
  exact this
 refine move_r1 (R := fun x => TTo base tb T V (moveA T amt fr) 2 (b3 w amt fr tt) x) (fr := fr) (amt := amt) (bl := (T.acc fr).bal) (v := fcalc 3 ((T.acc fr).bal % M) (amt % M) 0) (ba := w.heap.size) (bf := w.heap.size + 1) _ _ ra rf (fun x hx => balance_any fr x (h2.below hx)) (fun x hx => reckon_any 3 (by omega) _ amt x (h2.below hx).zr) ?_ (Below.refl _ _).drew rfl rfl rfl rfl ?_
 ·intro x hx
  exact (set_money0 fr _ x (h2.below hx) (by omega) (by omega)).mono fun e w' ⟨h1, h3⟩ => ⟨h1, TTo.pre hx h3⟩
 intro x hR
 obtain ⟨V1, S1, j1, j2, j3, j4, j5, j6⟩ : TTo base tb T V (moveA T amt fr) 2 (b3 w amt fr tt) x := hR
 have hno : ∀ k, w.heap.size ≤ k → k ∉ S1 := fun k hk hm => by
  have := h.lt (j4 k hm)
  omega
 have ra1 : wrow x w.heap.size amt := j3.row ra (hno _ (Nat.le_refl _))
 have rt1 : wrow x (w.heap.size + 1 + 1) tt := j3.row rt (hno _ (by omega))
 have hch : (moveA T amt fr).ch.length = T.ch.length + 1 := setT_ch _ _ _ _ _
 simp only [fill, List.foldl_cons, List.foldl_nil, Act.put]
 simp only [List.setIfInBounds_toArray, List.set_cons_zero, List.set_cons_succ]
 go_wp2
 refine move_r2 (R := fun y => TTo base tb (moveA T amt fr) V1 (moveT T amt fr tt) 2 x y) (fr := tt) (amt := amt) (bl := ((moveA T amt fr).acc tt).bal) (v := fcalc 1 (((moveA T amt fr).acc tt).bal % M) (amt % M) 0) (ba := w.heap.size) (bf := w.heap.size + 1 + 1) _ _ ra1 rt1 (fun y hy => balance_any tt y (j1.below hy)) (fun y hy => reckon_any 1 (by omega) _ amt y (j1.below hy).zr) ?_ (Below.refl _ _).drew rfl rfl rfl rfl ?_
 ·intro y hy
  exact (set_money0 tt _ y (j1.below hy) (by omega) (by omega)).mono fun e w' ⟨h1, h3⟩ => ⟨h1, TTo.pre hy h3⟩
 intro y hR
 have HO : Hid (TTo base tb T V (moveT T amt fr tt) 4 w y) := TTo.pre hB (TTo.comp (m := 2) (m' := 2) j2 j3 j4 j5 j6 hR)
 clear hR j1 j2 j3 j4 j5 j6 hno ra1 rt1 ra rf rt hB h2 h
 simp only [fill, List.foldl_cons, List.foldl_nil, Act.put]
 simp only [List.setIfInBounds_toArray, List.set_cons_zero, List.set_cons_succ]
 go_wp2
 go_end0
 exact ⟨rfl, HO.out⟩
end
section
open Go.RowKit
theorem zeroCells_u8 (k : Nat) : (Builtin.zeroCells #[.int .u8 0] k).toList = (List.replicate k (0 : UInt8)).map u8v := by
 rw [List.map_replicate, List.eq_replicate_iff]
 unfold Builtin.zeroCells
 refine ⟨by simp, fun b hb => ?_⟩
 simp at hb
 obtain ⟨x, _, rfl⟩ := hb
 rw [Nat.mod_one]
 rfl
theorem zeroCells_size (k : Nat) : (Builtin.zeroCells #[.int .u8 0] k).size = k := by rw [← Array.length_toList, zeroCells_u8]; simp
theorem und_int : Tryz.prog.underlying 3 = some (.int .i64) := by kernel_rfl
theorem run_append_room_zeros {P : Program} {k : Nat} (w : World) (t tn ty e : TypeId) (i : TypeInfo) (z : Value) (kq kn : IntKind) (ht : P.underlying t = some (.slice e)) (htn : P.underlying tn = some (.int kn)) (hi : P.info? e = some i) (hz : i.zero = some z) (hs : i.size = 1)
  (g sLen sCap : Nat) (cur : Array Value) (hg : w.heap[g]? = some (.cells cur e (0, 0))) (hcs : cur.size = sCap) (h1 : ∀ v ∈ (Builtin.zeroCells z.cells k).toList, v.oneCell' = true) (hzl : (Builtin.zeroCells z.cells k).size = k)
  (h0 : 0 < k) (hr : sLen + k ≤ sCap) (h48 : k * i.bytes ≤ 281474976710656) (h63 : k ≤ 9223372036854775807) :
  (Builtin.append_ #[t, tn] ty #[.slice (some ⟨g, 0, none⟩) sLen sCap, .int kq (k : Nat)]).run P w =
   .ok (.slice (some ⟨g, 0, none⟩) (sLen + k) sCap) (w.setRow g (cur.toList.take sLen ++ (Builtin.zeroCells z.cells k).toList ++ cur.toList.drop (sLen + k)).toArray) := by
 have hw : IntKind.i64.wrap (k : Int) = k := by rw [IntKind.wrap_i64]; omega
 have h48i : ¬ (281474976710656 < (k : Int) * (i.bytes : Int)) := by
  rw [← Int.natCast_mul]
  omega
 have hneg : ¬ ((k : Int) < 0) := by omega
 have hk : k ≠ 0 := by omega
 have hst := run_storeCells_at P g sLen e (Builtin.zeroCells z.cells k).toList 0 cur w hg (by rw [Array.length_toList, hzl]; omega) h1
 rw [Array.length_toList, hzl] at hst
 simp only [Nat.add_zero] at hst
 simp [Builtin.append_, run_underlying ht, run_underlying htn, sizeOf, typeInfo, zeroValue, hi, hz, hs, asInt, asIntOf, hw, hr, hneg, hk, h48i, Addr.add_lit, hst]
theorem append_zeros (w : World) (base k : Nat) (v : Value) (l : List UInt8) (hv : Bys w base v l) (hk : 0 < k) (hl : l.length + k ≤ 100000) (hb : base ≤ w.heap.size) (ty : TypeId) :
  ∃ v' w', (Builtin.append_ #[26, 3] ty #[v, .int .i64 (k : Int)]).run Tryz.prog w = .ok v' w' ∧ Bys w' base v' (l ++ List.replicate k 0) ∧ w.grownBy w' v.ownBlock ∧ Fresh w v v' := by
 obtain ⟨i, hi, hz, hs, hby⟩ := info_parts info_u8
 have hzc : (Value.int .u8 0).cells = #[.int .u8 0] := rfl
 have hln : (l ++ List.replicate k (0 : UInt8)).length = l.length + k := by simp
 have hmap : (l ++ List.replicate k (0 : UInt8)).map u8v = l.map u8v ++ (List.replicate k (0 : UInt8)).map u8v := List.map_append
 rcases hv.2 with ⟨rfl, h0⟩ | ⟨g, cap, cur, rfl, hg1, hg, hnc, hcm, hcs, htk⟩
 ·obtain rfl : l = [] := List.length_eq_zero_iff.1 h0
  have hrun := Lib.run_append_nil_zeros (P := Tryz.prog) w 26 3 ty 5 i (.int .u8 0) .i64 .i64 und_bs und_int hi hz k hk (by omega) (by simp at hl; omega) (by rw [hby]; simp at hl; omega)
  rw [hzc] at hrun
  have hge := grownCap_ge w k 0 5
  have hcm := grownCap_le_maxLen w k 0 5 (by unfold maxLen; simp at hl; omega)
  refine ⟨_, _, hrun, ⟨by simp, Or.inr ⟨w.heap.size, _, _, ?_, hb, heap_alloc_new w.drew _, by rw [hln]; simpa using hge, hcm, ?_, ?_⟩⟩, ⟨rfl, rfl, rfl, by simp, fun j hj _ => Below.heap_alloc w.drew _ j hj⟩, Or.inr fun k hk => by simp [Value.ownBlock] at hk; omega⟩
  ·simp
  ·rw [Array.size_append, zeroCells_size, zeroCells_size]; omega
  ·rw [Array.toList_append, zeroCells_u8, zeroCells_u8]
   simp
 ·have hcur : cur.size = cap := by rw [hcs, Nat.mul_one]
  rw [Nat.mul_one] at htk
  have hlv : l.length = (l.map u8v).length := by simp
  by_cases hr : l.length + k ≤ cap
  ·have hrun := run_append_room_zeros (P := Tryz.prog) (k := k) w 26 3 ty 5 i (.int .u8 0) .i64 .i64 und_bs und_int hi hz hs g l.length cap cur hg hcur (by rw [hzc, zeroCells_u8]; exact u8v_one _) (by rw [hzc]; exact zeroCells_size k) hk hr (by rw [hby]; omega) (by omega)
   rw [hzc, zeroCells_u8, htk] at hrun
   refine ⟨_, _, hrun, ⟨by simp, Or.inr ⟨g, cap, _, by rw [hln], hg1, setRow_heap w g _ _ _ _ hg, by rw [hln]; exact hr, hcm, ?_, ?_⟩⟩, ⟨rfl, rfl, rfl, by simp [World.setRow], fun j hj hne => setRow_other w g j _ (fun e => hne (by rw [e]; rfl))⟩, Or.inl rfl⟩
   ·simp
    omega
   ·rw [hln, Nat.mul_one, hmap]
    simp only [List.append_assoc]
    rw [← List.append_assoc, List.take_append_of_le_length (by simp), List.take_of_length_le (by simp)]
  ·have hrun := Lib.run_append_grow_zeros (P := Tryz.prog) w 26 3 ty 5 i (.int .u8 0) .i64 .i64 und_bs und_int hi hz (some ⟨g, 0, none⟩) l.length cap (l.map u8v)
    (run_firstCells_some (P := Tryz.prog) w.drew i.size l.length ⟨g, 0, none⟩ l.length cap (l.map u8v) (by rw [hs]; simp) (fun j u hj => hv.cells rfl j u hj)) k hk (by omega) (by omega) (by omega) (by rw [hby]; omega) (growslice_fits (by omega) (by rw [hby]; omega))
   rw [hzc] at hrun
   have hge := grownCap_ge w (l.length + k) cap 5
   have hcm2 := grownCap_le_maxLen w (l.length + k) cap 5 (by unfold maxLen; omega)
   refine ⟨_, _, hrun, ⟨by simp, Or.inr ⟨w.heap.size, _, _, by rw [hln], hb, heap_alloc_new w.drew _, by rw [hln]; exact hge, hcm2, ?_, ?_⟩⟩, ⟨rfl, rfl, rfl, by simp, fun j hj _ => Below.heap_alloc w.drew _ j hj⟩, Or.inr fun k hk => by simp [Value.ownBlock] at hk; omega⟩
   ·rw [Array.size_append, Array.size_append, zeroCells_size, zeroCells_size]
    simp
    omega
   ·rw [hln, Nat.mul_one, hmap, Array.toList_append, Array.toList_append, zeroCells_u8, zeroCells_u8]
    rw [List.take_append_of_le_length (by simp), List.take_of_length_le (by simp)]
end
section
open Go.RowKit
theorem cell_mv (F : FS) (sv mv v' : Value) (m : List UInt8) : (fun i => if i = 20 then v' else F.cell sv mv i) = ({ F with mem := m } : FS).cell sv v' := by
 funext i
 by_cases h : i = 20
 ·subst h; rfl
 ·simp only [FS.cell, if_neg h]
theorem Fr.ms {base fb : Nat} {F : FS} {S : List Nat} {sv mv : Value} {w : World} (h : Fr base fb F S sv mv w) : ∀ k, sv.ownBlock = some k → k ∉ fb :: mv.ownBlock.toList := fun k hk hm => by
 rcases List.mem_cons.1 hm with h1 | h1
 ·exact h.fs k hk h1
 ·have h2 : mv.ownBlock = some k := by simpa using h1
  rcases own_ne h.st h.me tWB with h3 | h3
  ·rw [h3] at hk; cases hk
  ·exact h3 (hk.trans h2.symm)
theorem Fr.memory {base fb : Nat} {F : FS} {S : List Nat} {sv mv v' : Value} {w w' : World} {m : List UInt8} (h : Fr base fb F S sv mv w) (hl : m.length ≤ 65536) (h32 : m.length % 32 = 0) (hw : Bys w' base v' m) (hf : Fresh w mv v') (hu : Up mv.ownBlock.toList fb 20 v' w w') : To base fb { F with mem := m } S w w' := by
 refine ⟨_, sv, v', ⟨(cell_mv F sv mv v' m) ▸ hu.row h.row, hu.kb.own h.st h.ms, hw, rfl, h.stl, hl, h.gal, Nat.le_trans h.hb hu.kb.size, zr_kb h.zr hu.kb (fun hm => h.no0 (by rw [h.foot]; rcases List.mem_cons.1 hm with e | e; simp [e]; exact List.mem_cons_of_mem _ (List.mem_append_right _ e))) h.hs, h.hb1, h.hfb, h32, h.jr.kb hu.kb (fun g N f hr hm => h.bno g N f hr (by rw [h.foot]; rcases List.mem_cons.1 hm with e | e; simp [e]; exact List.mem_cons_of_mem _ (List.mem_append_right _ e)))⟩, ?_, ?_⟩
 ·rw [h.foot]
  exact hu.kb.mono (fun i hi => by rcases List.mem_cons.1 hi with h1 | h1; simp [h1]; exact List.mem_cons_of_mem _ (List.mem_append_right _ h1))
 ·intro k hk
  rw [h.foot]
  rcases List.mem_cons.1 hk with h1 | h1
  ·exact Or.inl (by simp [h1])
  ·rcases List.mem_append.1 h1 with h2 | h2
   ·exact Or.inl (List.mem_cons_of_mem _ (List.mem_append_left _ h2))
   ·have h3 : v'.ownBlock = some k := by simpa using h2
    rcases hf with h4 | h4
    ·exact Or.inl (List.mem_cons_of_mem _ (List.mem_append_right _ (by rw [← h4]; exact h2)))
    ·exact Or.inr (h4 k h3)
theorem To.pre {base fb : Nat} {F2 : FS} {S S1 : List Nat} {w w1 w2 : World} (hk : Kb S w w1) (hs : ∀ k ∈ S1, k ∈ S ∨ w.heap.size ≤ k) (k : To base fb F2 S1 w1 w2) : To base fb F2 S w w2 := by
 obtain ⟨S2, sv2, mv2, k1, k2, k3⟩ := k
 refine ⟨S2, sv2, mv2, k1, hk.trans k2 hs, fun i hi => ?_⟩
 rcases k3 i hi with h4 | h4
 ·exact hs i h4
 ·exact Or.inr (Nat.le_trans hk.size h4)
def stepsN (n : Nat) : Nat := (n + 31) / 32
def growF (needed : Nat) (F : FS) : Option (Unit × FS) :=
 if needed ≤ stepsN F.mem.length then some ((), F) else match payF (3 * (needed - stepsN F.mem.length)) F with
  | none => none
  | some (_, F1) => some ((), { F1 with mem := F1.mem ++ List.replicate (32 * (needed - stepsN F.mem.length)) 0 })
theorem payF_mem {c : Nat} {F F1 : FS} {u : Unit} (h : payF c F = some (u, F1)) : F1.mem = F.mem ∧ F1.st = F.st ∧ c ≤ F.gas := by
 unfold payF at h
 split at h
 ·cases h
 ·obtain ⟨_, rfl⟩ := Prod.mk.inj (Option.some.inj h)
  exact ⟨rfl, rfl, by omega⟩
set_option maxRecDepth 100000 in
set_option maxHeartbeats 2000000 in
theorem grow_I {base fb : Nat} {F : FS} {S : List Nat} {sv mv : Value} (n : Nat) (hn : n ≤ 2048) (w : World) (h : Fr base fb F S sv mv w) :
  Calls Tryz.prog 293 #[.pointer (some ⟨fb, 0, none⟩), .int .i64 (n : Int)] w (Out (growF n F) unitV base fb S w) := by
 have hml := h.mel
 obtain ⟨ad, cap, rfl⟩ := own_sl h.me
 have hc : w.cell? ⟨fb, 20, none⟩ = some (.slice ad F.mem.length cap) := h.row.cell (i := 20) (by decide)
 obtain ⟨q, hq⟩ : ∃ q, q = stepsN F.mem.length := ⟨_, rfl⟩
 have hqb : q ≤ 2048 := by rw [hq]; unfold stepsN; omega
 have HS : Hid (∀ w, Calls Tryz.prog 287 #[.int .i64 (F.mem.length : Int)] w fun e w' => e = .returned (.int .i64 (q : Int)) ∧ w' = w) := fun w => by rw [hq]; exact steps_any F.mem.length (by omega) w
 unfold growF
 rw [← hq]
 by_cases hle : n ≤ q
 ·rw [if_pos hle]
  have d : decide ((n : Int) - (q : Int) ≤ 0) = true := decide_eq_true (by omega)
  have HT := hid_of h.to
  clear h hq
  go_enter Tryz.func293, Tryz.ntmps293
  go_wp2_with fail
  refine (HS.out _).mono ?_
  rintro e w1 ⟨rfl, rfl⟩
  go_wp2
  first | go_end0 | refine bodyPost_ret (results_none rfl _ _ _) rfl ?_
  exact ⟨rfl, HT.out⟩
 ·rw [if_neg hle]
  obtain ⟨m, hm⟩ : ∃ m : Nat, (n : Int) - (q : Int) = (m : Int) := ⟨n - q, by omega⟩
  have hm2 : n - q = m := by omega
  have hm3 : 0 < m := by omega
  have hm4 : m ≤ 2048 := by omega
  have d : decide ((m : Int) ≤ 0) = false := decide_eq_false (by omega)
  rw [hm2]
  have HP : Hid (Calls Tryz.prog 204 #[.pointer (some ⟨fb, 0, none⟩), .int .i64 (3 * (m : Int))] w (Out (payF (3 * m) F) unitV base fb S w)) := by
   have h9 := pay_I (3 * m) (by omega) w h
   rw [show ((3 * m : Nat) : Int) = 3 * (m : Int) by omega] at h9
   exact h9
  have HQ : Hid (F.mem.length + 32 * m ≤ 65536) := by show _ ≤ _; rw [hq] at hm2; unfold stepsN at hm2; omega
  cases hp : payF (3 * m) F with
  | none =>
   rw [hp] at HP
   clear h hq
   go_enter Tryz.func293, Tryz.ntmps293
   go_wp2_with fail
   refine (HS.out _).mono ?_
   rintro e w1 ⟨rfl, rfl⟩
   go_wp2_with fail
   refine HP.out.mono ?_
   rintro e w2 ⟨⟨u, pv, rfl⟩, hk⟩
   exact ⟨rfl, ⟨_, _, rfl⟩, hk⟩
  | some r =>
   obtain ⟨u, F1⟩ := r
   rw [hp] at HP
   have HM := hid_of (payF_mem hp)
   clear h hq hp
   go_enter Tryz.func293, Tryz.ntmps293
   go_wp2_with fail
   refine (HS.out _).mono ?_
   rintro e w1 ⟨rfl, rfl⟩
   go_wp2_with fail
   refine HP.out.mono ?_
   rintro e w2 ⟨rfl, S1, sv1, mv1, hf1, hk1, hs1⟩
   obtain ⟨ad1, cap1, rfl⟩ := own_sl hf1.me
   have hlen : F1.mem.length + 32 * m ≤ 65536 := by rw [HM.out.1]; exact HQ.out
   obtain ⟨v', w3, hrun, hby, hgr, hfr⟩ := append_zeros w2 base (32 * m) (.slice ad1 F1.mem.length cap1) F1.mem hf1.me (by omega) (by omega) hf1.hb 26
   rw [show ((32 * m : Nat) : Int) = 32 * (m : Int) by omega] at hrun
   obtain ⟨g', cap', rfl, hg1, hg2, hg3⟩ := own_shape hby (by simp; omega)
   have hc2 : w2.cell? ⟨fb, 20, none⟩ = some (.slice ad1 F1.mem.length cap1) := hf1.row.cell (i := 20) (by decide)
   have hkb : Kb (Value.slice ad1 F1.mem.length cap1).ownBlock.toList w2 w3 := (Kb.refl _ _).grown hgr (fun k hk => Or.inl (by rw [hk]; simp))
   have hni : fb ∉ (Value.slice ad1 F1.mem.length cap1).ownBlock.toList := fun hm => hf1.fm fb (by simpa using hm) rfl
   have hro3 := hkb.row hf1.row hni
   have hc3 : w3.cell? ⟨fb, 20, none⟩ = some (.slice ad1 F1.mem.length cap1) := hro3.cell (i := 20) (by decide)
   have hz3 := hro3.frozen 20
   have HR3 := hid_of hro3
   have HBY := hid_of hby
   have HFR := hid_of hfr
   have HKB := hid_of hkb
   have HF1 := hid_of hf1
   have HK1 := hid_of hk1
   have HS1 := hid_of hs1
   have HRUN := hid_of hrun
   have HNI := hid_of hni
   clear hro3 hby hfr hkb hf1 hk1 hs1 hrun hgr hni HP HS hm2 hg1 hg2 hg3
   go_wp2_with (at_builtin; refine Lib.wpList_append_run _ rfl _ _ _ _ rfl _ _ rfl rfl _ _ HRUN.out ?_)
   go_end0
   have e : (F1.mem ++ List.replicate (32 * m) (0 : UInt8)).length = F1.mem.length + 32 * m := by simp
   have hby := HBY.out
   have hfr := HFR.out
   rw [e] at hby hfr
   exact ⟨rfl, To.pre HK1.out HS1.out (HF1.out.memory (by rw [e]; exact hlen) (by rw [e]; have := HF1.out.m32; omega) (own_set hby (row_own_ne HR3.out hby tB) _ _) hfr (Up.mk' _ HKB.out HNI.out HF1.out.row.lt))⟩
end
section
open Go.RowKit
def reachF (p n : Nat) (F : FS) : Option ((Nat × Nat) × FS) :=
 if n % M = 0 then some ((0, 0), F) else if spanOk p n 65536 then (match growF (stepsN (p % M + n % M)) F with
  | none => none
  | some (_, F1) => some ((p % M, n % M), F1)) else none
def pairV (x : Nat × Nat) : Value := .tuple #[.int .i64 (x.1 : Int), .int .i64 (x.2 : Int)]
theorem eqw_zero_t {n : Nat} (h : n % M = 0) : eqw n 0 = true := by unfold eqw; rw [h]; rfl
theorem eqw_zero_f {n : Nat} (h : n % M ≠ 0) : eqw n 0 = false := by unfold eqw; exact decide_eq_false (by simpa using h)
set_option maxRecDepth 100000 in
set_option maxHeartbeats 2000000 in
theorem reach_I {base fb : Nat} {F : FS} {S : List Nat} {sv mv : Value} (p n : Nat) (w : World) (h : Fr base fb F S sv mv w) :
  Calls Tryz.prog 288 #[.pointer (some ⟨fb, 0, none⟩), wv p, wv n] w (Out (reachF p n F) pairV base fb S w) := by
 have hez := eq_zero n
 have hs := W2.start w p n
 have hf2 := h.below hs.be
 obtain ⟨z0, z1, z2, z3⟩ : _ ∧ _ ∧ _ ∧ _ := ⟨hf2.zr 0 (by omega), hf2.zr 1 (by omega), hf2.zr 2 (by omega), hf2.zr 3 (by omega)⟩
 unfold reachF
 by_cases hn : n % M = 0
 ·rw [if_pos hn]
  rw [eqw_zero_t hn] at hez
  have HT : Hid (To base fb F S w ((w.alloc (wc p)).alloc (wc n))) := ⟨S, sv, mv, hf2, Kb.of_below hs.be, fun k hk => Or.inl hk⟩
  clear hf2 hs h hn
  go_enter Tryz.func288, Tryz.ntmps288
  go_wp2
  go_ret2
  exact ⟨rfl, HT.out⟩
 ·rw [if_neg hn]
  rw [eqw_zero_f hn] at hez
  by_cases hsp : spanOk p n 65536
  ·rw [if_pos hsp]
   have hsi := span_in p n 65536 (by omega) hsp
   have hsle : p % M + n % M ≤ 65536 := hsp.2.2
   obtain ⟨q, HQ⟩ : ∃ q : Nat, Hid (q = p % M) := ⟨_, rfl⟩
   obtain ⟨m, HM⟩ : ∃ m : Nat, Hid (m = n % M) := ⟨_, rfl⟩
   have HSP : Hid (∀ w, Calls Tryz.prog 286 #[wv p, wv n, .int .i64 65536] w fun e w' => e = .returned (.tuple #[.int .i64 (q : Int), .int .i64 (m : Int), .bool true]) ∧ Below w.heap.size w w') := fun w => (hsi w).mono fun e w' ⟨q', m', h1, h2, h3, h4⟩ => ⟨by rw [h3, h1.out, h2.out, HQ.out, HM.out], h4⟩
   rw [← HQ.out, ← HM.out] at hsle ⊢
   have HF := hid_of h
   have HS := hid_of hs
   have HST : Hid (∀ w, Calls Tryz.prog 287 #[.int .i64 ((q : Int) + (m : Int))] w fun e w' => e = .returned (.int .i64 ((stepsN (q + m) : Nat) : Int)) ∧ w' = w) := fun w => by
    have h9 := steps_any (q + m) (by omega) w
    rw [show ((q + m : Nat) : Int) = (q : Int) + (m : Int) by omega] at h9
    exact h9
   have HG : Hid (∀ w1, Below w.heap.size w w1 → Calls Tryz.prog 293 #[.pointer (some ⟨fb, 0, none⟩), .int .i64 ((stepsN (q + m) : Nat) : Int)] w1 (Out (growF (stepsN (q + m)) F) unitV base fb S w1)) := fun w1 hb => grow_I (stepsN (q + m)) (by unfold stepsN; omega) w1 (HF.out.below hb)
   generalize stepsN (q + m) = t at *
   clear hf2 hs h hn hsp hsi HQ HM
   cases hg : growF t F with
   | none =>
    rw [hg] at HG
    show Calls _ _ _ _ (Out none pairV base fb S w)
    go_enter Tryz.func288, Tryz.ntmps288
    go_wp2_with fail
    refine (HSP.out _).mono ?_
    rintro e w1 ⟨rfl, hb1⟩
    have HBE := hid_of (HS.out.call hb1).be
    clear hb1
    go_wp2_with fail
    refine (HST.out _).mono ?_
    rintro e w2 ⟨rfl, rfl⟩
    go_wp2_with fail
    refine (HG.out _ HBE.out).mono ?_
    rintro e w3 ⟨⟨u, pv, rfl⟩, hk⟩
    exact ⟨rfl, ⟨_, _, rfl⟩, (Kb.of_below HBE.out).trans hk (fun i hi => Or.inl hi)⟩
   | some r =>
    obtain ⟨u, F1⟩ := r
    rw [hg] at HG
    show Calls _ _ _ _ (Out (some ((q, m), F1)) pairV base fb S w)
    go_enter Tryz.func288, Tryz.ntmps288
    go_wp2_with fail
    refine (HSP.out _).mono ?_
    rintro e w1 ⟨rfl, hb1⟩
    have HBE := hid_of (HS.out.call hb1).be
    clear hb1
    go_wp2_with fail
    refine (HST.out _).mono ?_
    rintro e w2 ⟨rfl, rfl⟩
    go_wp2_with fail
    refine (HG.out _ HBE.out).mono ?_
    rintro e w3 ⟨rfl, hto⟩
    have HTO := hid_of (To.pre (Kb.of_below HBE.out) (fun k hk => Or.inl hk) hto)
    clear hto
    go_wp2
    go_ret2
    exact ⟨rfl, HTO.out⟩
  ·rw [if_neg hsp]
   have HSP := hid_of (span_out p n 65536 (by omega) hsp)
   have HS := hid_of hs
   clear hf2 hs h hn hsp
   go_enter Tryz.func288, Tryz.ntmps288
   go_wp2_with fail
   refine (HSP.out _).mono ?_
   rintro e w1 ⟨rfl, hb1⟩
   have HBE := hid_of (HS.out.call hb1).be
   clear hb1
   go_wp2
   exact ⟨rfl, ⟨_, _, rfl⟩, Kb.of_below HBE.out⟩
end
section
open Go.RowKit
def PartOf (mv v : Value) (a b : Nat) : Prop := ∃ (ad : Option Addr) (c : Nat), v = .slice ad b c ∧ b ≤ c ∧ (b ≠ 0 → ∃ g len cap : Nat, mv = .slice (some ⟨g, 0, none⟩) len cap ∧ ad = some ⟨g, a, none⟩ ∧ a + b ≤ len)
def OutP (r : Option ((Nat × Nat) × FS)) (base fb : Nat) (S : List Nat) (w : World) (e : Ending) (w' : World) : Prop :=
 match r with
 | some (x, F') => ∃ v S' sv' mv', e = .returned v ∧ Fr base fb F' S' sv' mv' w' ∧ Kb S w w' ∧ (∀ k ∈ S', k ∈ S ∨ w.heap.size ≤ k) ∧ PartOf mv' v x.1 x.2
 | none => Pan e ∧ Kb S w w'
theorem growF_len {n : Nat} {F F1 : FS} {u : Unit} (h : growF n F = some (u, F1)) (h32 : F.mem.length % 32 = 0) : 32 * n ≤ F1.mem.length := by
 unfold growF at h
 split at h
 ·rename_i hle
  obtain ⟨_, rfl⟩ := Prod.mk.inj (Option.some.inj h)
  unfold stepsN at hle
  omega
 ·split at h
  ·cases h
  ·rename_i hp
   obtain ⟨_, rfl⟩ := Prod.mk.inj (Option.some.inj h)
   have hm := (payF_mem hp).1
   show 32 * n ≤ (_ ++ _ : List UInt8).length
   rw [List.length_append, List.length_replicate, hm]
   unfold stepsN at *
   omega
theorem reachF_len {p n a b : Nat} {F F1 : FS} (h : reachF p n F = some ((a, b), F1)) (h32 : F.mem.length % 32 = 0) : a + b ≤ F1.mem.length := by
 unfold reachF at h
 split at h
 ·obtain ⟨h1, rfl⟩ := Prod.mk.inj (Option.some.inj h)
  obtain ⟨rfl, rfl⟩ := Prod.mk.inj h1
  omega
 ·split at h
  ·split at h
   ·cases h
   ·rename_i hg
    obtain ⟨h1, rfl⟩ := Prod.mk.inj (Option.some.inj h)
    obtain ⟨rfl, rfl⟩ := Prod.mk.inj h1
    have := growF_len hg h32
    unfold stepsN at this
    omega
  ·cases h
set_option maxRecDepth 100000 in
set_option maxHeartbeats 2000000 in
theorem part_I {base fb : Nat} {F : FS} {S : List Nat} {sv mv : Value} (p n : Nat) (w : World) (h : Fr base fb F S sv mv w) :
  Calls Tryz.prog 275 #[.pointer (some ⟨fb, 0, none⟩), wv p, wv n] w (OutP (reachF p n F) base fb S w) := by
 have hs := W2.start w p n
 have HR := hid_of (reach_I p n _ (h.below hs.be))
 have HBE := hid_of hs.be
 have h32 := h.m32
 clear hs h
 cases hr : reachF p n F with
 | none =>
  rw [hr] at HR
  clear hr
  go_enter Tryz.func275, Tryz.ntmps275
  go_wp2_with fail
  refine HR.out.mono ?_
  rintro e w1 ⟨⟨u, pv, rfl⟩, hk⟩
  exact ⟨rfl, ⟨_, _, rfl⟩, (Kb.of_below HBE.out).trans hk (fun i hi => Or.inl hi)⟩
 | some r =>
  obtain ⟨⟨a, b⟩, F1⟩ := r
  have HL := hid_of (reachF_len hr h32)
  rw [hr] at HR
  clear hr
  go_enter Tryz.func275, Tryz.ntmps275
  go_wp2_with fail
  refine HR.out.mono ?_
  rintro e w1 ⟨rfl, S1, sv1, mv1, hf1, hk1, hs1⟩
  obtain ⟨ad1, cap1, rfl⟩ := own_sl hf1.me
  have hcap : F1.mem.length ≤ cap1 := by
   rcases hf1.me.2 with ⟨h1, h2⟩ | ⟨g, cap, cur, h1, _, _, h4, _⟩
   ·omega
   ·injection h1 with _ _ h5
    omega
  have hmel := hf1.mel
  have hc1 : w1.cell? ⟨fb, 20, none⟩ = some (.slice ad1 F1.mem.length cap1) := hf1.row.cell (i := 20) (by decide)
  have hle := HL.out
  have HF1 := hid_of hf1
  have HK := hid_of ((Kb.of_below (S := S) HBE.out).trans hk1 (fun i hi => Or.inl hi))
  have HS1 : Hid (∀ k ∈ S1, k ∈ S ∨ w.heap.size ≤ k) := fun k hk => (hs1 k hk).imp id (fun h => Nat.le_trans HBE.out.size h)
  have HNIL : Hid (ad1 = none → cap1 = 0) := fun e => by
   rcases hf1.me.2 with ⟨h1, h2⟩ | ⟨g, cap, cur, h1, _⟩
   ·injection h1
   ·rw [e] at h1; injection h1 with h1; cases h1
  clear hf1 hk1 hs1 HR
  unfold pairV
  go_wp2
  ·go_ret
   refine ⟨_, S1, sv1, _, rfl, HF1.out, HK.out, HS1.out, _, _, rfl, by omega, fun hb => absurd hb (by omega)⟩
  ·go_ret
   refine ⟨_, S1, sv1, _, rfl, HF1.out, HK.out, HS1.out, _, _, rfl, by show b ≤ cap1 - a; omega, fun hb => ?_⟩
   obtain ⟨g, cap', e1, _⟩ := own_shape HF1.out.me (by show F1.mem.length ≠ 0; simp at hb; omega)
   injection e1 with e1 e2 e3
   subst e1
   exact ⟨g, F1.mem.length, cap1, rfl, by simp [Addr.add]; exact fun h => h.symm, hle⟩
end
section
open Go.RowKit
set_option maxRecDepth 100000 in
set_option maxHeartbeats 4000000 in
theorem pushBytes_r0 {base fb : Nat} {F : FS} {S : List Nat} {sv mv : Value} {Q : Exit → Act → World → Prop} (a : Act) (w : World) {n : Nat} (hsm11 : F.nx < 9223372036854775808) (hpc13 : (F.code).size ≤ 100000) (hpn13 : n ≤ 32) (h : Fr base fb F S sv mv w) (hsz : decide (19 < a.tmps.size) = true) (c1 : a.tmps.getD 1 undef = .int .i64 (n : Int)) (c0 : a.tmps.getD 0 undef = .pointer (some ⟨fb, 0, none⟩))
  (hpan : ∀ u pv s x, (pushF (ofL (pieceL (F.code) ((F.nx) % M) (n))) (F) = none) → s.defers = a.defers → Kb S w x → Q (.panic [{ v := .iface u pv, recovered := false }]) s x)
  (hok : ∀ (x : World) (S' : List Nat) (sv' mv' : Value) (z13 : Value), Fr base fb (nextF (pushF (ofL (pieceL (F.code) ((F.nx) % M) (n))) (F))) S' sv' mv' x → Kb S w x → (∀ j ∈ S', j ∈ S ∨ w.heap.size ≤ j) → (Pc (pieceL (F.code) ((F.nx) % M) (n))) (1, mv') S' z13 x → Q .normal (fill a [(4, .pointer (some ⟨fb, 0, none⟩)), (5, .pointer (some ⟨fb, 0, none⟩)), (6, .pointer (some ⟨fb, 19, none⟩)), (7, .pointer (some ⟨fb, 0, none⟩)), (8, .pointer (some ⟨fb, 0, none⟩)), (9, .pointer (some ⟨fb, 1, none⟩)), (10, .string F.code), (11, .pointer (some ⟨fb, 0, none⟩)), (12, .pointer (some ⟨fb, 0, none⟩)), (13, .pointer (some ⟨fb, 23, none⟩)), (14, .int .i64 (F.nx : Int)), (15, wv (F.nx)), (16, .int .i64 (n : Int)), (17, z13), (18, wv (ofL (pieceL (F.code) ((F.nx) % M) (n)))), (19, Value.tuple #[])]) x) :
  (Code.region 0 #[⟨some 4, .move (.tmp 0), 132, "instructions.go:121", #[], none⟩, ⟨some 5, .nilCheck (.tmp 4), 0, "instructions.go:121", #[⟨0, .data⟩], none⟩, ⟨some 6, .fieldAddr 137 (.tmp 5) 10, 0, "instructions.go:121", #[⟨1, .data⟩], none⟩, ⟨some 7, .move (.tmp 0), 132, "instructions.go:121", #[], none⟩, ⟨some 8, .nilCheck (.tmp 7), 0, "instructions.go:121", #[⟨3, .data⟩], none⟩, ⟨some 9, .fieldAddr 137 (.tmp 8) 1, 0, "instructions.go:121", #[⟨4, .data⟩], none⟩, ⟨some 10, .load 9 (.tmp 9), 9, "instructions.go:121", #[⟨5, .data⟩], none⟩, ⟨some 11, .move (.tmp 0), 132, "instructions.go:121", #[], none⟩, ⟨some 12, .nilCheck (.tmp 11), 0, "instructions.go:121", #[⟨7, .data⟩], none⟩, ⟨some 13, .fieldAddr 137 (.tmp 12) 14, 0, "instructions.go:121", #[⟨8, .data⟩], none⟩, ⟨some 14, .load 3 (.tmp 13), 3, "instructions.go:121", #[⟨9, .data⟩], none⟩, ⟨some 15, .call ⟨.value (.func 262), #[.tmp 14], #[3]⟩, 24, "instructions.go:121", #[⟨10, .data⟩], none⟩, ⟨some 16, .move (.tmp 1), 3, "instructions.go:121", #[], none⟩, ⟨some 17, .call ⟨.value (.func 261), #[.tmp 10, .tmp 15, .tmp 16], #[9, 24, 3]⟩, 26, "instructions.go:121", #[⟨6, .data⟩, ⟨11, .data⟩, ⟨12, .data⟩, ⟨11, .chain⟩], none⟩, ⟨some 18, .call ⟨.value (.func 260), #[.tmp 17], #[26]⟩, 24, "instructions.go:121", #[⟨13, .data⟩, ⟨13, .chain⟩], none⟩, ⟨some 19, .call ⟨.value (.func 259), #[.tmp 6, .tmp 18], #[135, 24]⟩, 0, "instructions.go:121", #[⟨2, .data⟩, ⟨14, .data⟩, ⟨14, .chain⟩], none⟩] true).wp Tryz.prog Q a w := by
 have hsz := of_decide_eq_true hsz
 have hsame : ∀ k : Nat, 100000 < ((fun k => match k with | 0 => F | _ => nextF (pushF (ofL (pieceL (F.code) ((F.nx) % M) (n))) (F))) k).gas ∨ Same F ((fun k => match k with | 0 => F | _ => nextF (pushF (ofL (pieceL (F.code) ((F.nx) % M) (n))) (F))) k) := by
  intro k
  have s0 : 100000 < (F).gas ∨ Same F F := Or.inr (Same.refl F)
  have s1 : 100000 < (nextF (pushF (ofL (pieceL (F.code) ((F.nx) % M) (n))) (F))).gas ∨ Same F (nextF (pushF (ofL (pieceL (F.code) ((F.nx) % M) (n))) (F))) := same_push s0 _
  match k with
  | 0 => exact s0
  | _ + 1 => exact s1
 refine wp_region_fs (by kernel_rfl) (by kernel_rfl) base fb (fun k => match k with | 0 => F | _ => nextF (pushF (ofL (pieceL (F.code) ((F.nx) % M) (n))) (F))) S w h.hs [(some 4, Cst (.pointer (some ⟨fb, 0, none⟩))), (some 5, Cst (.pointer (some ⟨fb, 0, none⟩))), (some 6, Cst (.pointer (some ⟨fb, 19, none⟩))), (some 7, Cst (.pointer (some ⟨fb, 0, none⟩))), (some 8, Cst (.pointer (some ⟨fb, 0, none⟩))), (some 9, Cst (.pointer (some ⟨fb, 1, none⟩))), (some 10, Cst (.string F.code)), (some 11, Cst (.pointer (some ⟨fb, 0, none⟩))), (some 12, Cst (.pointer (some ⟨fb, 0, none⟩))), (some 13, Cst (.pointer (some ⟨fb, 23, none⟩))), (some 14, Cst (.int .i64 (F.nx : Int))), (some 15, Cst (wv (F.nx))), (some 16, Cst (.int .i64 (n : Int))), (some 17, Pc (pieceL (F.code) ((F.nx) % M) (n))), (some 18, Cst (wv (ofL (pieceL (F.code) ((F.nx) % M) (n))))), (some 19, Cst (Value.tuple #[]))] [15] [] rfl (by rfl) ?_ ?_ ?_ S sv mv (h.below (Below.refl _ _).drew) (Kb.refl _ _).drew (fun j hj => Or.inl hj) [(1, .int .i64 (n : Int)), (0, .pointer (some ⟨fb, 0, none⟩))] ?_ (by rfl) (by kernel_rfl) (by rfl) (by rfl) ?_ ?_ ?_ ?_ ?_ ?_
 ·refine List.all_eq_true.2 fun d hd => decide_eq_true ?_
  have hd2 : d ∈ ([4, 5, 6, 7, 8, 9, 10, 11, 12, 13, 14, 15, 16, 17, 18, 19] : List Nat) := hd
  simp at hd2
  omega
 ·intro i d T ht
  have hm := List.mem_of_getElem? ht
  simp only [List.mem_cons, List.not_mem_nil, or_false, Prod.mk.injEq] at hm
  rcases hm with ⟨_, rfl⟩ | ⟨_, rfl⟩ | ⟨_, rfl⟩ | ⟨_, rfl⟩ | ⟨_, rfl⟩ | ⟨_, rfl⟩ | ⟨_, rfl⟩ | ⟨_, rfl⟩ | ⟨_, rfl⟩ | ⟨_, rfl⟩ | ⟨_, rfl⟩ | ⟨_, rfl⟩ | ⟨_, rfl⟩ | ⟨_, rfl⟩ | ⟨_, rfl⟩ | ⟨_, rfl⟩ <;> first | exact cst_stable _ | exact plc_stable | exact pc_stable _ | exact ln_stable _ | exact pr_stable _ _ | exact any_stable | exact prA_stable _ _ | exact stk_stable _ | exact wat_stable _ | exact nv_stable
 ·exact fun hne => absurd rfl hne
 ·intro p hp
  simp only [List.mem_cons, List.not_mem_nil, or_false] at hp
  rcases hp with rfl | rfl
  ·exact c1
  ·exact c0
 ·intro b hb; cases hb
 ·intro i o d T ho ht hic hnb s x k S1 sv1 mv1 hfr hkb hb hdep hkp
  have hi : i < 16 := (Array.getElem?_eq_some_iff.1 ho).1
  rcases ltq16 hi with rfl | rfl | rfl | rfl | rfl | rfl | rfl | rfl | rfl | rfl | rfl | rfl | rfl | rfl | rfl | rfl
  ·obtain rfl := sj ho
   obtain ⟨rfl, rfl⟩ := pk ht
   exact ⟨want_none rfl, fun K hK => st_move 0 4 _ (hb (0, .pointer (some ⟨fb, 0, none⟩)) (List.Mem.tail _ (List.Mem.head _))) (hK _ x (Below.refl _ _) (fun h => by cases h) rfl)⟩
  ·obtain rfl := sj ho
   obtain ⟨rfl, rfl⟩ := pk ht
   exact ⟨want_none rfl, fun K hK => st_nil (hdep ⟨0, .data⟩ (by simp) rfl _ _ rfl) (hK _ x (Below.refl _ _) (fun h => by cases h) rfl)⟩
  ·obtain rfl := sj ho
   obtain ⟨rfl, rfl⟩ := pk ht
   exact ⟨want_none rfl, fun K hK => st_f_stack (hdep ⟨1, .data⟩ (by simp) rfl _ _ rfl) (hK _ x (Below.refl _ _) (fun h => by cases h) rfl)⟩
  ·obtain rfl := sj ho
   obtain ⟨rfl, rfl⟩ := pk ht
   exact ⟨want_none rfl, fun K hK => st_move 0 7 _ (hb (0, .pointer (some ⟨fb, 0, none⟩)) (List.Mem.tail _ (List.Mem.head _))) (hK _ x (Below.refl _ _) (fun h => by cases h) rfl)⟩
  ·obtain rfl := sj ho
   obtain ⟨rfl, rfl⟩ := pk ht
   exact ⟨want_none rfl, fun K hK => st_nil (hdep ⟨3, .data⟩ (by simp) rfl _ _ rfl) (hK _ x (Below.refl _ _) (fun h => by cases h) rfl)⟩
  ·obtain rfl := sj ho
   obtain ⟨rfl, rfl⟩ := pk ht
   exact ⟨want_none rfl, fun K hK => st_f_code (hdep ⟨4, .data⟩ (by simp) rfl _ _ rfl) (hK _ x (Below.refl _ _) (fun h => by cases h) rfl)⟩
  ·obtain rfl := sj ho
   obtain ⟨rfl, rfl⟩ := pk ht
   exact ⟨want_none rfl, fun K hK => by
    rcases hsame k with hbd | hsm
    ·exact absurd hfr.gal (Nat.not_le.2 hbd)
    ·have e := hsm.code
     exact st_load1 (v := .string F.code) (fun w => by kernel_rfl) (hdep ⟨5, .data⟩ (by simp) rfl _ _ rfl) ((hfr.row.cell (i := 1) (by decide)).trans (congrArg (fun z => some (Value.string z)) e)) (hK _ x (Below.refl _ _) (fun h => by cases h) rfl)⟩
  ·obtain rfl := sj ho
   obtain ⟨rfl, rfl⟩ := pk ht
   exact ⟨want_none rfl, fun K hK => st_move 0 11 _ (hb (0, .pointer (some ⟨fb, 0, none⟩)) (List.Mem.tail _ (List.Mem.head _))) (hK _ x (Below.refl _ _) (fun h => by cases h) rfl)⟩
  ·obtain rfl := sj ho
   obtain ⟨rfl, rfl⟩ := pk ht
   exact ⟨want_none rfl, fun K hK => st_nil (hdep ⟨7, .data⟩ (by simp) rfl _ _ rfl) (hK _ x (Below.refl _ _) (fun h => by cases h) rfl)⟩
  ·obtain rfl := sj ho
   obtain ⟨rfl, rfl⟩ := pk ht
   exact ⟨want_none rfl, fun K hK => st_f_next (hdep ⟨8, .data⟩ (by simp) rfl _ _ rfl) (hK _ x (Below.refl _ _) (fun h => by cases h) rfl)⟩
  ·obtain rfl := sj ho
   obtain ⟨rfl, rfl⟩ := pk ht
   exact ⟨want_none rfl, fun K hK => by
    rcases hsame k with hbd | hsm
    ·exact absurd hfr.gal (Nat.not_le.2 hbd)
    ·have e := hsm.nx
     exact st_load1 (v := .int .i64 (F.nx : Int)) (fun w => by kernel_rfl) (hdep ⟨9, .data⟩ (by simp) rfl _ _ rfl) ((hfr.row.cell (i := 23) (by decide)).trans (congrArg (fun z : Nat => some (Value.int .i64 (z : Int))) e)) (hK _ x (Below.refl _ _) (fun h => by cases h) rfl)⟩
  ·obtain rfl := sj ho
   obtain ⟨rfl, rfl⟩ := pk ht
   exact ⟨want_none rfl, fun K hK => st_call own_small (ev1 (hdep ⟨10, .data⟩ (by simp) rfl _ _ rfl)) (hsmall_any (F.nx) hsm11 x) (fun e x' h9 => ⟨_, h9.1, hK _ x' h9.2 (fun h => by cases h) rfl⟩)⟩
  ·obtain rfl := sj ho
   obtain ⟨rfl, rfl⟩ := pk ht
   exact ⟨want_none rfl, fun K hK => st_move 1 16 _ (hb (1, .int .i64 (n : Int)) (List.Mem.head _)) (hK _ x (Below.refl _ _) (fun h => by cases h) rfl)⟩
  ·obtain rfl := sj ho
   obtain ⟨rfl, rfl⟩ := pk ht
   exact ⟨want_none rfl, fun K hK => st_call own_piece (ev3 (hdep ⟨6, .data⟩ (by simp) rfl _ _ rfl) (hdep ⟨11, .data⟩ (by simp) rfl _ _ rfl) (hdep ⟨12, .data⟩ (by simp) rfl _ _ rfl)) (piece_any (F.code) (F.nx) (n) hpc13 (by omega) x) (fun e x' h9 => by obtain ⟨v, h1, h2, h3⟩ := h9; exact ⟨_, h1, hK _ x' h3 (fun h => by cases h) ⟨_, h2, fun k hk hm => by have := (h2.lt k hk).1; have := hfr.footlt k hm; omega⟩⟩)⟩
  ·obtain rfl := sj ho
   obtain ⟨rfl, rfl⟩ := pk ht
   exact ⟨want_none rfl, fun K hK => by
    obtain ⟨b9, h8, _⟩ := (hdep ⟨13, .data⟩ (by simp) rfl _ _ rfl)
    exact st_call own_fromBytes (ev1 rfl) (fromBytes_any (pieceL (F.code) ((F.nx) % M) (n)) (by rw [pieceL_len]; omega) _ x (Bys.rds h8)) (fun e x' h9 => ⟨_, h9.1, hK _ x' h9.2 (fun h => by cases h) rfl⟩)⟩
  ·exact absurd (by simp) hic
 ·intro p i o d T hp ho ht s x S1 sv1 mv1 hfr hkb hsub hdf hb hdep
  match p, hp with
  | 0, hp =>
   obtain rfl := Option.some.inj (show some 15 = some i from hp)
   obtain rfl := sj ho
   obtain ⟨rfl, rfl⟩ := pk ht
   refine ⟨want_none rfl, fun K hK => st_out (r := pushF (ofL (pieceL (F.code) ((F.nx) % M) (n))) (F)) (val := unitV) own_push (ev2 (hdep ⟨2, .data⟩ (by simp) rfl _ _ rfl) (hdep ⟨14, .data⟩ (by simp) rfl _ _ rfl)) (push_I (ofL (pieceL (F.code) ((F.nx) % M) (n))) x hfr) (fun u pv x' hrn hk => hpan u pv s x' hrn hdf (hkb.trans hk hsub)) (fun y F' S2 sv2 mv2 x' hr h1 h2 h3 => ?_)⟩
   refine hK _ S2 sv2 mv2 x' ?_ h2 h3 (fun h => by cases h) ?_
   ·show Fr base fb (nextF (pushF (ofL (pieceL (F.code) ((F.nx) % M) (n))) (F))) S2 sv2 mv2 x'
    rw [hr]
    exact h1
   ·show _ = Value.tuple #[]
    first | rfl | (rw [hr]; rfl)
  | _ + 1, hp => cases hp
 ·intro b hb; cases hb
 ·intro b hb; cases hb
 ·intro vs x S1 sv1 mv1 hfr hkb hsub hl hT hB
  obtain ⟨v0, v1, v2, v3, v4, v5, v6, v7, v8, v9, v10, v11, v12, v13, v14, v15, rfl⟩ := lenq16 (hl : vs.length = 16)
  obtain rfl : v0 = .pointer (some ⟨fb, 0, none⟩) := hT 0 _ _ rfl
  obtain rfl : v1 = .pointer (some ⟨fb, 0, none⟩) := hT 1 _ _ rfl
  obtain rfl : v2 = .pointer (some ⟨fb, 19, none⟩) := hT 2 _ _ rfl
  obtain rfl : v3 = .pointer (some ⟨fb, 0, none⟩) := hT 3 _ _ rfl
  obtain rfl : v4 = .pointer (some ⟨fb, 0, none⟩) := hT 4 _ _ rfl
  obtain rfl : v5 = .pointer (some ⟨fb, 1, none⟩) := hT 5 _ _ rfl
  obtain rfl : v6 = .string F.code := hT 6 _ _ rfl
  obtain rfl : v7 = .pointer (some ⟨fb, 0, none⟩) := hT 7 _ _ rfl
  obtain rfl : v8 = .pointer (some ⟨fb, 0, none⟩) := hT 8 _ _ rfl
  obtain rfl : v9 = .pointer (some ⟨fb, 23, none⟩) := hT 9 _ _ rfl
  obtain rfl : v10 = .int .i64 (F.nx : Int) := hT 10 _ _ rfl
  obtain rfl : v11 = wv (F.nx) := hT 11 _ _ rfl
  obtain rfl : v12 = .int .i64 (n : Int) := hT 12 _ _ rfl
  have t13 : (Pc (pieceL (F.code) ((F.nx) % M) (n))) (1, mv1) S1 v13 x := hT 13 _ _ rfl
  obtain rfl : v14 = wv (ofL (pieceL (F.code) ((F.nx) % M) (n))) := hT 14 _ _ rfl
  obtain rfl : v15 = Value.tuple #[] := hT 15 _ _ rfl
  exact hok x S1 sv1 mv1 v13 hfr hkb hsub t13
end
section
open Go.RowKit
theorem cell_nx (F : FS) (sv mv : Value) (n : Nat) : (fun i => if i = 23 then .int .i64 (n : Int) else F.cell sv mv i) = ({ F with nx := n } : FS).cell sv mv := by
 funext i
 by_cases h : i = 23
 ·subst h; rfl
 ·simp only [FS.cell, if_neg h]
theorem Fr.set1 {base fb : Nat} {F F' : FS} {S : List Nat} {sv mv : Value} {w : World} (h : Fr base fb F S sv mv w) (o : Nat) (v : Value) (hc : (fun i => if i = o then v else F.cell sv mv i) = F'.cell sv mv) (hst : F'.st = F.st) (hme : F'.mem = F.mem) (hjd : F'.jd = F.jd) (hcd : F'.code = F.code) (hg : F'.gas ≤ 100000) : To base fb F' S w (w.setCell ⟨fb, o, none⟩ v) :=
 h.own hst hme hjd hcd hg (hc ▸ h.row.set o v) ((Kb.refl [fb] w).setCell (Or.inl (by simp)) _)
def pushBytesF (n : Nat) (F : FS) : Option (Unit × FS) := match pushF (ofL (pieceL F.code (F.nx % M) n)) F with
 | none => none
 | some (_, F1) => some ((), { F1 with nx := F1.nx + n })
theorem pushF_nx {n : Nat} {F F1 : FS} {u : Unit} (h : pushF n F = some (u, F1)) : F1 = { F with st := n :: F.st } := by
 unfold pushF at h
 split at h
 ·cases h
 ·exact (Prod.mk.inj (Option.some.inj h)).2.symm
set_option maxRecDepth 100000 in
set_option maxHeartbeats 4000000 in
theorem pushBytes_I {base fb : Nat} {F : FS} {S : List Nat} {sv mv : Value} (n : Nat) (hn : n ≤ 32) (hcs : F.code.size ≤ 1000) (hnx : F.nx ≤ 100000) (w : World) (h : Fr base fb F S sv mv w) :
  Calls Tryz.prog 236 #[.pointer (some ⟨fb, 0, none⟩), .int .i64 (n : Int)] w (Out (pushBytesF n F) unitV base fb S w) := by
 have HB : Hid (F.code.size ≤ 100000) := by show _ ≤ _; omega
 unfold pushBytesF
 cases hp : pushF (ofL (pieceL F.code (F.nx % M) n)) F with
 | none =>
  show Calls _ _ _ _ (Out none unitV base fb S w)
  go_enter Tryz.func236, Tryz.ntmps236
  go_wp2
  refine pushBytes_r0 _ _ (by omega) HB.out hn h rfl rfl rfl ?_ ?_
  ·intro u pv s x _ hd hk
   exact ⟨hd, ⟨_, _, rfl⟩, hk⟩
  ·intro x S' sv' mv' z hfr
   rw [hp] at hfr
   exact absurd hfr (fun h => no_bad h)
 | some r =>
  obtain ⟨u, F1⟩ := r
  have hF1 := pushF_nx hp
  have hnx1 : F1.nx ≤ 100000 := by rw [hF1]; exact hnx
  show Calls _ _ _ _ (Out (some ((), { F1 with nx := F1.nx + n })) unitV base fb S w)
  have HP := hid_of hp
  clear hF1 hp
  go_enter Tryz.func236, Tryz.ntmps236
  go_wp2
  refine pushBytes_r0 _ _ (by omega) HB.out hn h rfl rfl rfl ?_ ?_
  ·intro u pv s x hno
   exact absurd hno (fun h => by rw [HP.out] at h; cases h)
  ·intro x S' sv' mv' z hfr hkb hsub hpc
   rw [HP.out] at hfr
   have hfr2 : Fr base fb F1 S' sv' mv' x := hfr
   have hcn : x.cell? ⟨fb, 23, none⟩ = some (.int .i64 (F1.nx : Int)) := hfr2.row.cell (i := 23) (by decide)
   have hzn := hfr2.row.frozen 23
   have HF := hid_of hfr2
   have HK := hid_of hkb
   have HS := hid_of hsub
   clear hfr hfr2 hkb hsub hpc HP
   generalize ofL (pieceL F.code (F.nx % M) n) = y at *
   simp only [fill, List.foldl_cons, List.foldl_nil, Act.put]
   go_wp2
   go_end0
   exact ⟨rfl, To.pre HK.out HS.out (HF.out.set1 23 _ (cell_nx F1 sv' mv' (F1.nx + n)) rfl rfl rfl rfl HF.out.gal)⟩
end
section
open Go.RowKit
set_option maxHeartbeats 8000000
set_option maxRecDepth 100000
theorem doEnd_r2 {base fb : Nat} {F : FS} {S : List Nat} {sv mv : Value} {Q : Exit → Act → World → Prop} (a : Act) (w : World) (h : Fr base fb F S sv mv w) (hsz : decide (18 < a.tmps.size) = true) (c0 : a.tmps.getD 0 undef = .pointer (some ⟨fb, 0, none⟩))
  (hpan : ∀ u pv s x, (popF (F) = none ∨ popF (nextF (popF (F))) = none) → s.defers = a.defers → Kb S w x → Q (.panic [{ v := .iface u pv, recovered := false }]) s x)
  (hok : ∀ (x : World) (S' : List Nat) (sv' mv' : Value) (b0 : Nat) (b1 : Nat), Fr base fb (nextF (popF (nextF (popF (F))))) S' sv' mv' x → Kb S w x → (∀ j ∈ S', j ∈ S ∨ w.heap.size ≤ j) → b0 ∉ S' → w.heap.size ≤ b0 → wrow x b0 (gotN (popF (F))) → b1 ∉ S' → w.heap.size ≤ b1 → wrow x b1 (gotN (popF (nextF (popF (F))))) → Q .normal (fill a [(11, .pointer (some ⟨fb, 0, none⟩)), (12, .pointer (some ⟨fb, 0, none⟩)), (13, .pointer (some ⟨fb, 19, none⟩)), (14, wv (gotN (popF (F)))), (15, .pointer (some ⟨fb, 0, none⟩)), (16, .pointer (some ⟨fb, 0, none⟩)), (17, .pointer (some ⟨fb, 19, none⟩)), (18, wv (gotN (popF (nextF (popF (F)))))), (4, .pointer (some ⟨b0, 0, none⟩)), (5, .pointer (some ⟨b1, 0, none⟩))]) x) :
  (Code.region 2 #[⟨some 11, .move (.tmp 0), 132, "frame.go:126", #[], none⟩, ⟨some 12, .nilCheck (.tmp 11), 0, "frame.go:126", #[⟨0, .data⟩], none⟩, ⟨some 13, .fieldAddr 137 (.tmp 12) 10, 0, "frame.go:126", #[⟨1, .data⟩], none⟩, ⟨some 14, .call ⟨.value (.func 257), #[.tmp 13], #[135]⟩, 24, "frame.go:126", #[⟨2, .data⟩], none⟩, ⟨some 15, .move (.tmp 0), 132, "frame.go:126", #[], none⟩, ⟨some 16, .nilCheck (.tmp 15), 0, "frame.go:126", #[⟨4, .data⟩], none⟩, ⟨some 17, .fieldAddr 137 (.tmp 16) 10, 0, "frame.go:126", #[⟨5, .data⟩], none⟩, ⟨some 18, .call ⟨.value (.func 257), #[.tmp 17], #[135]⟩, 24, "frame.go:126", #[⟨6, .data⟩, ⟨3, .chain⟩], none⟩, ⟨some 4, .alloc 24, 0, "frame.go:126", #[], none⟩, ⟨some 5, .alloc 24, 0, "frame.go:126", #[], none⟩, ⟨none, .store 24 (.tmp 4) (.tmp 14), 0, "frame.go:126", #[⟨8, .data⟩, ⟨3, .data⟩, ⟨7, .chain⟩, ⟨0, .phase⟩, ⟨1, .phase⟩, ⟨2, .phase⟩, ⟨3, .phase⟩, { on := 4, ground := Ground.textOnly Departure.lateStores }, { on := 5, ground := Ground.textOnly Departure.lateStores }, { on := 6, ground := Ground.textOnly Departure.lateStores }, { on := 7, ground := Ground.textOnly Departure.lateStoresUnsure }, ⟨8, .phase⟩, ⟨9, .phase⟩], none⟩, ⟨none, .store 24 (.tmp 5) (.tmp 18), 0, "frame.go:126", #[⟨9, .data⟩, ⟨7, .data⟩, ⟨10, .chain⟩, ⟨0, .phase⟩, ⟨1, .phase⟩, ⟨2, .phase⟩, ⟨3, .phase⟩, ⟨4, .phase⟩, ⟨5, .phase⟩, ⟨6, .phase⟩, ⟨7, .phase⟩, ⟨8, .phase⟩, ⟨9, .phase⟩, ⟨10, .phase⟩], none⟩] true).wp Tryz.prog Q a w := by
 have hsz := of_decide_eq_true hsz
 refine wp_region_fs (by kernel_rfl) (by kernel_rfl) base fb (fun k => match k with | 0 => F | 1 => nextF (popF (F)) | _ => nextF (popF (nextF (popF (F))))) S w h.hs [(some 11, Cst (.pointer (some ⟨fb, 0, none⟩))), (some 12, Cst (.pointer (some ⟨fb, 0, none⟩))), (some 13, Cst (.pointer (some ⟨fb, 19, none⟩))), (some 14, Cst (wv (gotN (popF (F))))), (some 15, Cst (.pointer (some ⟨fb, 0, none⟩))), (some 16, Cst (.pointer (some ⟨fb, 0, none⟩))), (some 17, Cst (.pointer (some ⟨fb, 19, none⟩))), (some 18, Cst (wv (gotN (popF (nextF (popF (F))))))), (some 4, Plc), (some 5, Plc), (none, Cst undef), (none, Cst undef)] [3, 7] [⟨8, 10, 4, gotN (popF (F))⟩, ⟨9, 11, 5, gotN (popF (nextF (popF (F))))⟩] rfl (by rfl) ?_ ?_ ?_ S sv mv (h.below (Below.refl _ _).drew) (Kb.refl _ _).drew (fun j hj => Or.inl hj) [(0, .pointer (some ⟨fb, 0, none⟩))] ?_ (by rfl) (by kernel_rfl) (by rfl) (by rfl) ?_ ?_ ?_ ?_ ?_ ?_
 ·refine List.all_eq_true.2 fun d hd => decide_eq_true ?_
  have hd2 : d ∈ ([11, 12, 13, 14, 15, 16, 17, 18, 4, 5] : List Nat) := hd
  simp at hd2
  omega
 ·intro i d T ht
  have hm := List.mem_of_getElem? ht
  simp only [List.mem_cons, List.not_mem_nil, or_false, Prod.mk.injEq] at hm
  rcases hm with ⟨_, rfl⟩ | ⟨_, rfl⟩ | ⟨_, rfl⟩ | ⟨_, rfl⟩ | ⟨_, rfl⟩ | ⟨_, rfl⟩ | ⟨_, rfl⟩ | ⟨_, rfl⟩ | ⟨_, rfl⟩ | ⟨_, rfl⟩ | ⟨_, rfl⟩ | ⟨_, rfl⟩ <;> first | exact cst_stable _ | exact plc_stable | exact pc_stable _ | exact ln_stable _ | exact pr_stable _ _ | exact any_stable | exact prA_stable _ _ | exact stk_stable _ | exact wat_stable _ | exact nv_stable
 ·intro _ i d T ht
  have hm := List.mem_of_getElem? ht
  simp only [List.mem_cons, List.not_mem_nil, or_false, Prod.mk.injEq] at hm
  rcases hm with ⟨_, rfl⟩ | ⟨_, rfl⟩ | ⟨_, rfl⟩ | ⟨_, rfl⟩ | ⟨_, rfl⟩ | ⟨_, rfl⟩ | ⟨_, rfl⟩ | ⟨_, rfl⟩ | ⟨_, rfl⟩ | ⟨_, rfl⟩ | ⟨_, rfl⟩ | ⟨_, rfl⟩ <;> first | exact cst_stableB _ | exact plc_stableB
 ·intro p hp
  simp only [List.mem_cons, List.not_mem_nil, or_false] at hp
  rcases hp with rfl
  ·exact c0
 ·intro b hb
  simp only [List.mem_cons, List.not_mem_nil, or_false] at hb
  rcases hb with rfl | rfl <;> exact ⟨rfl, rfl, by kernel_rfl⟩
 ·intro i o d T ho ht hic hnb s x k S1 sv1 mv1 hfr hkb hb hdep hkp
  have hi : i < 12 := (Array.getElem?_eq_some_iff.1 ho).1
  rcases ltq12 hi with rfl | rfl | rfl | rfl | rfl | rfl | rfl | rfl | rfl | rfl | rfl | rfl
  ·obtain rfl := sj ho
   obtain ⟨rfl, rfl⟩ := pk ht
   exact ⟨want_none rfl, fun K hK => st_move 0 11 _ (hb (0, .pointer (some ⟨fb, 0, none⟩)) (List.Mem.head _)) (hK _ x (Below.refl _ _) (fun h => by cases h) rfl)⟩
  ·obtain rfl := sj ho
   obtain ⟨rfl, rfl⟩ := pk ht
   exact ⟨want_none rfl, fun K hK => st_nil (hdep ⟨0, .data⟩ (by simp) rfl _ _ rfl) (hK _ x (Below.refl _ _) (fun h => by cases h) rfl)⟩
  ·obtain rfl := sj ho
   obtain ⟨rfl, rfl⟩ := pk ht
   exact ⟨want_none rfl, fun K hK => st_f_stack (hdep ⟨1, .data⟩ (by simp) rfl _ _ rfl) (hK _ x (Below.refl _ _) (fun h => by cases h) rfl)⟩
  ·exact absurd (by simp) hic
  ·obtain rfl := sj ho
   obtain ⟨rfl, rfl⟩ := pk ht
   exact ⟨want_none rfl, fun K hK => st_move 0 15 _ (hb (0, .pointer (some ⟨fb, 0, none⟩)) (List.Mem.head _)) (hK _ x (Below.refl _ _) (fun h => by cases h) rfl)⟩
  ·obtain rfl := sj ho
   obtain ⟨rfl, rfl⟩ := pk ht
   exact ⟨want_none rfl, fun K hK => st_nil (hdep ⟨4, .data⟩ (by simp) rfl _ _ rfl) (hK _ x (Below.refl _ _) (fun h => by cases h) rfl)⟩
  ·obtain rfl := sj ho
   obtain ⟨rfl, rfl⟩ := pk ht
   exact ⟨want_none rfl, fun K hK => st_f_stack (hdep ⟨5, .data⟩ (by simp) rfl _ _ rfl) (hK _ x (Below.refl _ _) (fun h => by cases h) rfl)⟩
  ·exact absurd (by simp) hic
  ·exact absurd rfl (hnb _ (List.Mem.head _)).1
  ·exact absurd rfl (hnb _ (List.Mem.tail _ (List.Mem.head _))).1
  ·exact absurd rfl (hnb _ (List.Mem.head _)).2
  ·exact absurd rfl (hnb _ (List.Mem.tail _ (List.Mem.head _))).2
 ·intro p i o d T hp ho ht s x S1 sv1 mv1 hfr hkb hsub hdf hb hdep
  match p, hp with
  | 0, hp =>
   obtain rfl := Option.some.inj (show some 3 = some i from hp)
   obtain rfl := sj ho
   obtain ⟨rfl, rfl⟩ := pk ht
   refine ⟨want_none rfl, fun K hK => st_out (r := popF (F)) (val := wv) own_pop (ev1 (hdep ⟨2, .data⟩ (by simp) rfl _ _ rfl)) (pop_I x hfr) (fun u pv x' hrn hk => hpan u pv s x' (Or.inl hrn) hdf (hkb.trans hk hsub)) (fun y F' S2 sv2 mv2 x' hr h1 h2 h3 => ?_)⟩
   refine hK _ S2 sv2 mv2 x' ?_ h2 h3 (fun h => by cases h) ?_
   ·show Fr base fb (nextF (popF (F))) S2 sv2 mv2 x'
    rw [hr]
    exact h1
   ·show _ = wv (gotN (popF (F)))
    first | rfl | (rw [hr]; rfl)
  | 1, hp =>
   obtain rfl := Option.some.inj (show some 7 = some i from hp)
   obtain rfl := sj ho
   obtain ⟨rfl, rfl⟩ := pk ht
   refine ⟨want_none rfl, fun K hK => st_out (r := popF (nextF (popF (F)))) (val := wv) own_pop (ev1 (hdep ⟨6, .data⟩ (by simp) rfl _ _ rfl)) (pop_I x hfr) (fun u pv x' hrn hk => hpan u pv s x' (Or.inr hrn) hdf (hkb.trans hk hsub)) (fun y F' S2 sv2 mv2 x' hr h1 h2 h3 => ?_)⟩
   refine hK _ S2 sv2 mv2 x' ?_ h2 h3 (fun h => by cases h) ?_
   ·show Fr base fb (nextF (popF (nextF (popF (F))))) S2 sv2 mv2 x'
    rw [hr]
    exact h1
   ·show _ = wv (gotN (popF (nextF (popF (F)))))
    first | rfl | (rw [hr]; rfl)
  | _ + 2, hp => cases hp
 ·intro b hb o ho s x
  simp only [List.mem_cons, List.not_mem_nil, or_false] at hb
  rcases hb with rfl | rfl
  ·obtain rfl := sj ho
   exact ⟨want_none rfl, fun K hK => st_allocw hK⟩
  ·obtain rfl := sj ho
   exact ⟨want_none rfl, fun K hK => st_allocw hK⟩
 ·intro b hb o ho s x bl f S1 c1 hsl hrow hdep
  simp only [List.mem_cons, List.not_mem_nil, or_false] at hb
  rcases hb with rfl | rfl
  ·obtain rfl := sj ho
   exact ⟨want_none rfl, fun K hK => st_storew (n := gotN (popF (F))) hsl (hdep ⟨3, .data⟩ (by simp) rfl _ _ rfl) hrow (fun x' hr2 e => by rw [e]; exact hK)⟩
  ·obtain rfl := sj ho
   exact ⟨want_none rfl, fun K hK => st_storew (n := gotN (popF (nextF (popF (F))))) hsl (hdep ⟨7, .data⟩ (by simp) rfl _ _ rfl) hrow (fun x' hr2 e => by rw [e]; exact hK)⟩
 ·intro vs x S1 sv1 mv1 hfr hkb hsub hl hT hB
  obtain ⟨v0, v1, v2, v3, v4, v5, v6, v7, v8, v9, v10, v11, rfl⟩ := lenq12 (hl : vs.length = 12)
  obtain rfl : v0 = .pointer (some ⟨fb, 0, none⟩) := hT 0 _ _ rfl
  obtain rfl : v1 = .pointer (some ⟨fb, 0, none⟩) := hT 1 _ _ rfl
  obtain rfl : v2 = .pointer (some ⟨fb, 19, none⟩) := hT 2 _ _ rfl
  obtain rfl : v3 = wv (gotN (popF (F))) := hT 3 _ _ rfl
  obtain rfl : v4 = .pointer (some ⟨fb, 0, none⟩) := hT 4 _ _ rfl
  obtain rfl : v5 = .pointer (some ⟨fb, 0, none⟩) := hT 5 _ _ rfl
  obtain rfl : v6 = .pointer (some ⟨fb, 19, none⟩) := hT 6 _ _ rfl
  obtain rfl : v7 = wv (gotN (popF (nextF (popF (F))))) := hT 7 _ _ rfl
  obtain ⟨b0, e8, n8, l8⟩ := (hT 8 _ _ rfl : Plc (2, mv1) S1 v8 x)
  subst e8
  obtain ⟨b1, e9, n9, l9⟩ := (hT 9 _ _ rfl : Plc (2, mv1) S1 v9 x)
  subst e9
  exact hok x S1 sv1 mv1 b0 b1 hfr hkb hsub n8 (hB _ (List.Mem.head _) _ rfl).1 (hB _ (List.Mem.head _) _ rfl).2 n9 (hB _ (List.Mem.tail _ (List.Mem.head _)) _ rfl).1 (hB _ (List.Mem.tail _ (List.Mem.head _)) _ rfl).2
theorem storeWord_r0 {base fb : Nat} {F : FS} {S : List Nat} {sv mv : Value} {Q : Exit → Act → World → Prop} (a : Act) (w : World) (h : Fr base fb F S sv mv w) (hsz : decide (12 < a.tmps.size) = true) (c0 : a.tmps.getD 0 undef = .pointer (some ⟨fb, 0, none⟩))
  (hpan : ∀ u pv s x, (popF (F) = none ∨ popF (nextF (popF (F))) = none) → s.defers = a.defers → Kb S w x → Q (.panic [{ v := .iface u pv, recovered := false }]) s x)
  (hok : ∀ (x : World) (S' : List Nat) (sv' mv' : Value) (b0 : Nat) (b1 : Nat), Fr base fb (nextF (popF (nextF (popF (F))))) S' sv' mv' x → Kb S w x → (∀ j ∈ S', j ∈ S ∨ w.heap.size ≤ j) → b0 ∉ S' → w.heap.size ≤ b0 → wrow x b0 (gotN (popF (F))) → b1 ∉ S' → w.heap.size ≤ b1 → wrow x b1 (gotN (popF (nextF (popF (F))))) → Q .normal (fill a [(5, .pointer (some ⟨fb, 0, none⟩)), (6, .pointer (some ⟨fb, 0, none⟩)), (7, .pointer (some ⟨fb, 19, none⟩)), (8, wv (gotN (popF (F)))), (9, .pointer (some ⟨fb, 0, none⟩)), (10, .pointer (some ⟨fb, 0, none⟩)), (11, .pointer (some ⟨fb, 19, none⟩)), (12, wv (gotN (popF (nextF (popF (F)))))), (2, .pointer (some ⟨b0, 0, none⟩)), (3, .pointer (some ⟨b1, 0, none⟩))]) x) :
  (Code.region 0 #[⟨some 5, .move (.tmp 0), 132, "memory.go:44", #[], none⟩, ⟨some 6, .nilCheck (.tmp 5), 0, "memory.go:44", #[⟨0, .data⟩], none⟩, ⟨some 7, .fieldAddr 137 (.tmp 6) 10, 0, "memory.go:44", #[⟨1, .data⟩], none⟩, ⟨some 8, .call ⟨.value (.func 257), #[.tmp 7], #[135]⟩, 24, "memory.go:44", #[⟨2, .data⟩], none⟩, ⟨some 9, .move (.tmp 0), 132, "memory.go:44", #[], none⟩, ⟨some 10, .nilCheck (.tmp 9), 0, "memory.go:44", #[⟨4, .data⟩], none⟩, ⟨some 11, .fieldAddr 137 (.tmp 10) 10, 0, "memory.go:44", #[⟨5, .data⟩], none⟩, ⟨some 12, .call ⟨.value (.func 257), #[.tmp 11], #[135]⟩, 24, "memory.go:44", #[⟨6, .data⟩, ⟨3, .chain⟩], none⟩, ⟨some 2, .alloc 24, 0, "memory.go:44", #[], none⟩, ⟨some 3, .alloc 24, 0, "memory.go:44", #[], none⟩, ⟨none, .store 24 (.tmp 2) (.tmp 8), 0, "memory.go:44", #[⟨8, .data⟩, ⟨3, .data⟩, ⟨7, .chain⟩, ⟨0, .phase⟩, ⟨1, .phase⟩, ⟨2, .phase⟩, ⟨3, .phase⟩, { on := 4, ground := Ground.textOnly Departure.lateStores }, { on := 5, ground := Ground.textOnly Departure.lateStores }, { on := 6, ground := Ground.textOnly Departure.lateStores }, { on := 7, ground := Ground.textOnly Departure.lateStoresUnsure }, ⟨8, .phase⟩, ⟨9, .phase⟩], none⟩, ⟨none, .store 24 (.tmp 3) (.tmp 12), 0, "memory.go:44", #[⟨9, .data⟩, ⟨7, .data⟩, ⟨10, .chain⟩, ⟨0, .phase⟩, ⟨1, .phase⟩, ⟨2, .phase⟩, ⟨3, .phase⟩, ⟨4, .phase⟩, ⟨5, .phase⟩, ⟨6, .phase⟩, ⟨7, .phase⟩, ⟨8, .phase⟩, ⟨9, .phase⟩, ⟨10, .phase⟩], none⟩] true).wp Tryz.prog Q a w := by
 have hsz := of_decide_eq_true hsz
 refine wp_region_fs (by kernel_rfl) (by kernel_rfl) base fb (fun k => match k with | 0 => F | 1 => nextF (popF (F)) | _ => nextF (popF (nextF (popF (F))))) S w h.hs [(some 5, Cst (.pointer (some ⟨fb, 0, none⟩))), (some 6, Cst (.pointer (some ⟨fb, 0, none⟩))), (some 7, Cst (.pointer (some ⟨fb, 19, none⟩))), (some 8, Cst (wv (gotN (popF (F))))), (some 9, Cst (.pointer (some ⟨fb, 0, none⟩))), (some 10, Cst (.pointer (some ⟨fb, 0, none⟩))), (some 11, Cst (.pointer (some ⟨fb, 19, none⟩))), (some 12, Cst (wv (gotN (popF (nextF (popF (F))))))), (some 2, Plc), (some 3, Plc), (none, Cst undef), (none, Cst undef)] [3, 7] [⟨8, 10, 2, gotN (popF (F))⟩, ⟨9, 11, 3, gotN (popF (nextF (popF (F))))⟩] rfl (by rfl) ?_ ?_ ?_ S sv mv (h.below (Below.refl _ _).drew) (Kb.refl _ _).drew (fun j hj => Or.inl hj) [(0, .pointer (some ⟨fb, 0, none⟩))] ?_ (by rfl) (by kernel_rfl) (by rfl) (by rfl) ?_ ?_ ?_ ?_ ?_ ?_
 ·refine List.all_eq_true.2 fun d hd => decide_eq_true ?_
  have hd2 : d ∈ ([5, 6, 7, 8, 9, 10, 11, 12, 2, 3] : List Nat) := hd
  simp at hd2
  omega
 ·intro i d T ht
  have hm := List.mem_of_getElem? ht
  simp only [List.mem_cons, List.not_mem_nil, or_false, Prod.mk.injEq] at hm
  rcases hm with ⟨_, rfl⟩ | ⟨_, rfl⟩ | ⟨_, rfl⟩ | ⟨_, rfl⟩ | ⟨_, rfl⟩ | ⟨_, rfl⟩ | ⟨_, rfl⟩ | ⟨_, rfl⟩ | ⟨_, rfl⟩ | ⟨_, rfl⟩ | ⟨_, rfl⟩ | ⟨_, rfl⟩ <;> first | exact cst_stable _ | exact plc_stable | exact pc_stable _ | exact ln_stable _ | exact pr_stable _ _ | exact any_stable | exact prA_stable _ _ | exact stk_stable _ | exact wat_stable _ | exact nv_stable
 ·intro _ i d T ht
  have hm := List.mem_of_getElem? ht
  simp only [List.mem_cons, List.not_mem_nil, or_false, Prod.mk.injEq] at hm
  rcases hm with ⟨_, rfl⟩ | ⟨_, rfl⟩ | ⟨_, rfl⟩ | ⟨_, rfl⟩ | ⟨_, rfl⟩ | ⟨_, rfl⟩ | ⟨_, rfl⟩ | ⟨_, rfl⟩ | ⟨_, rfl⟩ | ⟨_, rfl⟩ | ⟨_, rfl⟩ | ⟨_, rfl⟩ <;> first | exact cst_stableB _ | exact plc_stableB
 ·intro p hp
  simp only [List.mem_cons, List.not_mem_nil, or_false] at hp
  rcases hp with rfl
  ·exact c0
 ·intro b hb
  simp only [List.mem_cons, List.not_mem_nil, or_false] at hb
  rcases hb with rfl | rfl <;> exact ⟨rfl, rfl, by kernel_rfl⟩
 ·intro i o d T ho ht hic hnb s x k S1 sv1 mv1 hfr hkb hb hdep hkp
  have hi : i < 12 := (Array.getElem?_eq_some_iff.1 ho).1
  rcases ltq12 hi with rfl | rfl | rfl | rfl | rfl | rfl | rfl | rfl | rfl | rfl | rfl | rfl
  ·obtain rfl := sj ho
   obtain ⟨rfl, rfl⟩ := pk ht
   exact ⟨want_none rfl, fun K hK => st_move 0 5 _ (hb (0, .pointer (some ⟨fb, 0, none⟩)) (List.Mem.head _)) (hK _ x (Below.refl _ _) (fun h => by cases h) rfl)⟩
  ·obtain rfl := sj ho
   obtain ⟨rfl, rfl⟩ := pk ht
   exact ⟨want_none rfl, fun K hK => st_nil (hdep ⟨0, .data⟩ (by simp) rfl _ _ rfl) (hK _ x (Below.refl _ _) (fun h => by cases h) rfl)⟩
  ·obtain rfl := sj ho
   obtain ⟨rfl, rfl⟩ := pk ht
   exact ⟨want_none rfl, fun K hK => st_f_stack (hdep ⟨1, .data⟩ (by simp) rfl _ _ rfl) (hK _ x (Below.refl _ _) (fun h => by cases h) rfl)⟩
  ·exact absurd (by simp) hic
  ·obtain rfl := sj ho
   obtain ⟨rfl, rfl⟩ := pk ht
   exact ⟨want_none rfl, fun K hK => st_move 0 9 _ (hb (0, .pointer (some ⟨fb, 0, none⟩)) (List.Mem.head _)) (hK _ x (Below.refl _ _) (fun h => by cases h) rfl)⟩
  ·obtain rfl := sj ho
   obtain ⟨rfl, rfl⟩ := pk ht
   exact ⟨want_none rfl, fun K hK => st_nil (hdep ⟨4, .data⟩ (by simp) rfl _ _ rfl) (hK _ x (Below.refl _ _) (fun h => by cases h) rfl)⟩
  ·obtain rfl := sj ho
   obtain ⟨rfl, rfl⟩ := pk ht
   exact ⟨want_none rfl, fun K hK => st_f_stack (hdep ⟨5, .data⟩ (by simp) rfl _ _ rfl) (hK _ x (Below.refl _ _) (fun h => by cases h) rfl)⟩
  ·exact absurd (by simp) hic
  ·exact absurd rfl (hnb _ (List.Mem.head _)).1
  ·exact absurd rfl (hnb _ (List.Mem.tail _ (List.Mem.head _))).1
  ·exact absurd rfl (hnb _ (List.Mem.head _)).2
  ·exact absurd rfl (hnb _ (List.Mem.tail _ (List.Mem.head _))).2
 ·intro p i o d T hp ho ht s x S1 sv1 mv1 hfr hkb hsub hdf hb hdep
  match p, hp with
  | 0, hp =>
   obtain rfl := Option.some.inj (show some 3 = some i from hp)
   obtain rfl := sj ho
   obtain ⟨rfl, rfl⟩ := pk ht
   refine ⟨want_none rfl, fun K hK => st_out (r := popF (F)) (val := wv) own_pop (ev1 (hdep ⟨2, .data⟩ (by simp) rfl _ _ rfl)) (pop_I x hfr) (fun u pv x' hrn hk => hpan u pv s x' (Or.inl hrn) hdf (hkb.trans hk hsub)) (fun y F' S2 sv2 mv2 x' hr h1 h2 h3 => ?_)⟩
   refine hK _ S2 sv2 mv2 x' ?_ h2 h3 (fun h => by cases h) ?_
   ·show Fr base fb (nextF (popF (F))) S2 sv2 mv2 x'
    rw [hr]
    exact h1
   ·show _ = wv (gotN (popF (F)))
    first | rfl | (rw [hr]; rfl)
  | 1, hp =>
   obtain rfl := Option.some.inj (show some 7 = some i from hp)
   obtain rfl := sj ho
   obtain ⟨rfl, rfl⟩ := pk ht
   refine ⟨want_none rfl, fun K hK => st_out (r := popF (nextF (popF (F)))) (val := wv) own_pop (ev1 (hdep ⟨6, .data⟩ (by simp) rfl _ _ rfl)) (pop_I x hfr) (fun u pv x' hrn hk => hpan u pv s x' (Or.inr hrn) hdf (hkb.trans hk hsub)) (fun y F' S2 sv2 mv2 x' hr h1 h2 h3 => ?_)⟩
   refine hK _ S2 sv2 mv2 x' ?_ h2 h3 (fun h => by cases h) ?_
   ·show Fr base fb (nextF (popF (nextF (popF (F))))) S2 sv2 mv2 x'
    rw [hr]
    exact h1
   ·show _ = wv (gotN (popF (nextF (popF (F)))))
    first | rfl | (rw [hr]; rfl)
  | _ + 2, hp => cases hp
 ·intro b hb o ho s x
  simp only [List.mem_cons, List.not_mem_nil, or_false] at hb
  rcases hb with rfl | rfl
  ·obtain rfl := sj ho
   exact ⟨want_none rfl, fun K hK => st_allocw hK⟩
  ·obtain rfl := sj ho
   exact ⟨want_none rfl, fun K hK => st_allocw hK⟩
 ·intro b hb o ho s x bl f S1 c1 hsl hrow hdep
  simp only [List.mem_cons, List.not_mem_nil, or_false] at hb
  rcases hb with rfl | rfl
  ·obtain rfl := sj ho
   exact ⟨want_none rfl, fun K hK => st_storew (n := gotN (popF (F))) hsl (hdep ⟨3, .data⟩ (by simp) rfl _ _ rfl) hrow (fun x' hr2 e => by rw [e]; exact hK)⟩
  ·obtain rfl := sj ho
   exact ⟨want_none rfl, fun K hK => st_storew (n := gotN (popF (nextF (popF (F))))) hsl (hdep ⟨7, .data⟩ (by simp) rfl _ _ rfl) hrow (fun x' hr2 e => by rw [e]; exact hK)⟩
 ·intro vs x S1 sv1 mv1 hfr hkb hsub hl hT hB
  obtain ⟨v0, v1, v2, v3, v4, v5, v6, v7, v8, v9, v10, v11, rfl⟩ := lenq12 (hl : vs.length = 12)
  obtain rfl : v0 = .pointer (some ⟨fb, 0, none⟩) := hT 0 _ _ rfl
  obtain rfl : v1 = .pointer (some ⟨fb, 0, none⟩) := hT 1 _ _ rfl
  obtain rfl : v2 = .pointer (some ⟨fb, 19, none⟩) := hT 2 _ _ rfl
  obtain rfl : v3 = wv (gotN (popF (F))) := hT 3 _ _ rfl
  obtain rfl : v4 = .pointer (some ⟨fb, 0, none⟩) := hT 4 _ _ rfl
  obtain rfl : v5 = .pointer (some ⟨fb, 0, none⟩) := hT 5 _ _ rfl
  obtain rfl : v6 = .pointer (some ⟨fb, 19, none⟩) := hT 6 _ _ rfl
  obtain rfl : v7 = wv (gotN (popF (nextF (popF (F))))) := hT 7 _ _ rfl
  obtain ⟨b0, e8, n8, l8⟩ := (hT 8 _ _ rfl : Plc (2, mv1) S1 v8 x)
  subst e8
  obtain ⟨b1, e9, n9, l9⟩ := (hT 9 _ _ rfl : Plc (2, mv1) S1 v9 x)
  subst e9
  exact hok x S1 sv1 mv1 b0 b1 hfr hkb hsub n8 (hB _ (List.Mem.head _) _ rfl).1 (hB _ (List.Mem.head _) _ rfl).2 n9 (hB _ (List.Mem.tail _ (List.Mem.head _)) _ rfl).1 (hB _ (List.Mem.tail _ (List.Mem.head _)) _ rfl).2
end
section
open Go.RowKit
def memAt (m : List UInt8) (a b : Nat) : List UInt8 := (m.drop a).take b
theorem memAt_len {m : List UInt8} {a b : Nat} (h : a + b ≤ m.length) : (memAt m a b).length = b := by
 unfold memAt
 rw [List.length_take, List.length_drop]
 omega
theorem memAt_get {m : List UInt8} {a b i : Nat} (h : a + b ≤ m.length) (hi : i < b) : (memAt m a b)[i]? = m[a + i]? := by
 unfold memAt
 rw [List.getElem?_take, if_pos hi, List.getElem?_drop]
theorem und_u8 : Tryz.prog.underlying 5 = some (.int .u8) := by kernel_rfl
theorem und_str : Tryz.prog.underlying 9 = some .string := by kernel_rfl
theorem PartOf.rds {w : World} {base : Nat} {mv v : Value} {m : List UInt8} {a b : Nat} (h : PartOf mv v a b) (hm : Bys w base mv m) (hl : a + b ≤ m.length) : Rds w v (memAt m a b) := by
 obtain ⟨ad, c, rfl, hbc, hp⟩ := h
 have hlen := memAt_len hl
 refine ⟨ad, c, by rw [hlen], by rw [hlen]; exact hbc, fun hne => ?_⟩
 have hb : b ≠ 0 := fun e => hne (List.length_eq_zero_iff.1 (by rw [hlen, e]))
 obtain ⟨g, len, cap, rfl, rfl, _⟩ := hp hb
 have hlt := (hm.lt g rfl).2
 obtain ⟨g2, cap2, e2, _⟩ := own_shape hm (by omega)
 injection e2 with _ e3 _
 subst e3
 refine ⟨g, a, rfl, hlt, fun i hi => ?_⟩
 rw [hlen] at hi
 have hc := World.ownsRow.cellAt hm (a + i) (by omega)
 rw [hc, List.getElem?_map]
 have h2 := memAt_get hl hi
 rw [List.getElem?_eq_getElem (by rw [hlen]; exact hi)] at h2
 rw [← h2]
 rfl
theorem Rds.str {w : World} {v : Value} {l : List UInt8} (h : Rds w v l) : (convert 26 9 v).run Tryz.prog w = .ok (.string ⟨l.toArray⟩) w := by
 obtain ⟨ad, cap, rfl, _, hc⟩ := h
 have hs : strOfNums (l.map fun b => ((b.toNat : Nat) : Int)) = ⟨l.toArray⟩ := by
  unfold strOfNums
  rw [List.map_map]
  congr 2
  conv => rhs; rw [← List.map_id l]
  refine List.map_congr_left fun b _ => ?_
  simp
 by_cases hl : l = []
 ·subst hl
  cases ad with
  | none => exact run_convert_bytes_nil (P := Tryz.prog) w 26 5 und_bs und_u8 _ _ 9 und_str
  | some ad =>
   have hl0 : (loadCells ad 0).run Tryz.prog w = .ok #[] w := rfl
   rw [run_convert_bytes_string w 26 9 5 (some ad) _ cap und_bs und_u8 und_str, List.length_nil, run_bytesToString w ad 0 cap [] hl0]
   rfl
 ·obtain ⟨g, o, rfl, _, hcell⟩ := hc hl
  have h := run_convert_bytes_arg (P := Tryz.prog) w 26 5 und_bs und_u8 g o l.length cap (l.map fun b => ((b.toNat : Nat) : Int)) (by simp) (fun i hi => by
   rw [hcell i hi, List.getD_eq_getElem?_getD, List.getElem?_map, List.getElem?_eq_getElem hi]
   rfl) 9 und_str
  rw [hs] at h
  exact h
theorem cell_ended (F : FS) (sv mv : Value) : (fun i => if i = 24 then .bool true else F.cell sv mv i) = ({ F with ended := true } : FS).cell sv mv := by
 funext i
 by_cases h : i = 24
 ·subst h; rfl
 ·simp only [FS.cell, if_neg h]
theorem cell_out (F : FS) (sv mv : Value) (o : ByteArray) : (fun i => if i = 26 then .string o else F.cell sv mv i) = ({ F with out := o } : FS).cell sv mv := by
 funext i
 by_cases h : i = 26
 ·subst h; rfl
 ·simp only [FS.cell, if_neg h]
theorem cell_status (F : FS) (sv mv : Value) (n : Nat) : (fun i => if i = 25 then .int .u8 (n : Int) else F.cell sv mv i) = ({ F with status := n } : FS).cell sv mv := by
 funext i
 by_cases h : i = 25
 ·subst h; rfl
 ·simp only [FS.cell, if_neg h]
def endF (op : Nat) (F : FS) : Option (Unit × FS) :=
 if op = 0 then some ((), { F with ended := true }) else match popF { F with ended := true } with
  | none => none
  | some (p, F1) => match popF F1 with
   | none => none
   | some (n, F2) => match reachF p n F2 with
    | none => none
    | some ((a, b), F3) => some ((), if op = 253 then { F3 with out := ⟨(memAt F3.mem a b).toArray⟩, status := 1 } else { F3 with out := ⟨(memAt F3.mem a b).toArray⟩ })
set_option maxRecDepth 100000 in
set_option maxHeartbeats 4000000 in
theorem doEnd_ret {base fb : Nat} {F : FS} {S : List Nat} {sv mv : Value} (op : Nat) (ho : op = 243 ∨ op = 253) (w : World) (h : Fr base fb F S sv mv w) :
  Calls Tryz.prog 245 #[.pointer (some ⟨fb, 0, none⟩), .int .u8 (op : Int)] w (Out (endF op F) unitV base fb S w) := by
 have hc := h.row.cell (i := 24) (by decide)
 have hz := h.row.frozen 24
 rw [show F.cell sv mv 24 = .bool F.ended from rfl] at hc
 have d0 : ((op : Int) == 0) = false := by simp; omega
 obtain ⟨S1, sv1, mv1, hf1, hk1, hs1⟩ := h.set1 24 (.bool true) (cell_ended F sv mv) rfl rfl rfl rfl h.gal
 have HF1 := hid_of hf1
 have HK1 := hid_of hk1
 have HS1 := hid_of hs1
 clear h hf1 hk1 hs1
 unfold endF
 rw [if_neg (by omega)]
 generalize ({ F with ended := true } : FS) = F0 at *
 cases hp1 : popF F0 with
 | none =>
  show Calls _ _ _ _ (Out none unitV base fb S w)
  go_enter Tryz.func245, Tryz.ntmps245
  go_wp2
  refine doEnd_r2 _ _ HF1.out rfl rfl ?_ ?_
  ·intro u pv s x _ hd hk
   exact ⟨hd, ⟨_, _, rfl⟩, HK1.out.trans hk HS1.out⟩
  ·intro x S' sv' mv' b0 b1 hfr
   rw [hp1] at hfr
   exact absurd hfr (fun h => no_bad h)
 | some r1 =>
  obtain ⟨p, F1⟩ := r1
  cases hp2 : popF F1 with
  | none =>
   show Calls _ _ _ _ (Out (match popF F1 with
    | none => none
    | some (n, F2) => match reachF p n F2 with
     | none => none
     | some ((a, b), F3) => some ((), if op = 253 then { F3 with out := ⟨(memAt F3.mem a b).toArray⟩, status := 1 } else { F3 with out := ⟨(memAt F3.mem a b).toArray⟩ })) unitV base fb S w)
   rw [hp2]
   show Calls _ _ _ _ (Out none unitV base fb S w)
   have HP1 := hid_of hp1
   have HP2 := hid_of hp2
   clear hp1 hp2
   go_enter Tryz.func245, Tryz.ntmps245
   go_wp2
   refine doEnd_r2 _ _ HF1.out rfl rfl ?_ ?_
   ·intro u pv s x _ hd hk
    exact ⟨hd, ⟨_, _, rfl⟩, HK1.out.trans hk HS1.out⟩
   ·intro x S' sv' mv' b0 b1 hfr
    rw [HP1.out] at hfr
    have hfr2 : Fr base fb (nextF (popF F1)) S' sv' mv' x := hfr
    rw [HP2.out] at hfr2
    exact absurd hfr2 (fun h => no_bad h)
  | some r2 =>
   obtain ⟨n, F2⟩ := r2
   show Calls _ _ _ _ (Out (match popF F1 with
    | none => none
    | some (n, F2) => match reachF p n F2 with
     | none => none
     | some ((a, b), F3) => some ((), if op = 253 then { F3 with out := ⟨(memAt F3.mem a b).toArray⟩, status := 1 } else { F3 with out := ⟨(memAt F3.mem a b).toArray⟩ })) unitV base fb S w)
   rw [hp2]
   show Calls _ _ _ _ (Out (match reachF p n F2 with
     | none => none
     | some ((a, b), F3) => some ((), if op = 253 then { F3 with out := ⟨(memAt F3.mem a b).toArray⟩, status := 1 } else { F3 with out := ⟨(memAt F3.mem a b).toArray⟩ })) unitV base fb S w)
   have HP1 := hid_of hp1
   have HP2 := hid_of hp2
   clear hp1 hp2
   cases hre : reachF p n F2 with
   | none =>
    show Calls _ _ _ _ (Out none unitV base fb S w)
    have HRE := hid_of hre
    clear hre
    go_enter Tryz.func245, Tryz.ntmps245
    go_wp2
    refine doEnd_r2 _ _ HF1.out rfl rfl ?_ ?_
    ·intro u pv s x hno
     rw [HP1.out] at hno
     exact absurd hno (fun h => by rcases h with h | h; cases h; rw [show nextF (some (p, F1)) = F1 from rfl, HP2.out] at h; cases h)
    ·intro x S' sv' mv' b0 b1 hfr hkb hsub hn0 hg0 hr0 hn1 hg1 hr1
     rw [HP1.out] at hfr hr0 hr1
     have hfr2 : Fr base fb (nextF (popF F1)) S' sv' mv' x := hfr
     have hr12 : wrow x b1 (gotN (popF F1)) := hr1
     rw [HP2.out] at hfr2 hr12
     have hfr3 : Fr base fb F2 S' sv' mv' x := hfr2
     have hr03 : wrow x b0 p := hr0
     have hr13 : wrow x b1 n := hr12
     have HPA := hid_of (part_I p n x hfr3)
     rw [HRE.out] at HPA
     obtain ⟨c0, c1, c2, c3⟩ := row_cells4 hr03
     obtain ⟨e0, e1, e2, e3⟩ := row_cells4 hr13
     have HKB := hid_of (HK1.out.trans hkb HS1.out)
     have HSU : Hid (∀ j ∈ S', j ∈ S ∨ w.heap.size ≤ j) := fun j hj => (hsub j hj).elim (HS1.out j) (fun h => Or.inr (Nat.le_trans HK1.out.size h))
     clear hfr hfr2 hfr3 hr0 hr1 hr12 hr03 hr13 hkb hsub
     simp only [fill, List.foldl_cons, List.foldl_nil, Act.put]
     rw [HP1.out]
     simp only [show gotN (some (p, F1)) = p from rfl, show nextF (some (p, F1)) = F1 from rfl]
     rw [HP2.out]
     simp only [show gotN (some (n, F2)) = n from rfl]
     go_wp2_with fail
     refine HPA.out.mono ?_
     rintro e w2 ⟨⟨u, pv, rfl⟩, hk⟩
     exact ⟨rfl, ⟨_, _, rfl⟩, HKB.out.trans hk HSU.out⟩
   | some r3 =>
    obtain ⟨⟨a, b⟩, F3⟩ := r3
    show Calls _ _ _ _ (Out (some ((), if op = 253 then { F3 with out := ⟨(memAt F3.mem a b).toArray⟩, status := 1 } else { F3 with out := ⟨(memAt F3.mem a b).toArray⟩ })) unitV base fb S w)
    have HRE := hid_of hre
    clear hre
    rcases ho with rfl | rfl
    ·rw [if_neg (by omega)]
     go_enter Tryz.func245, Tryz.ntmps245
     go_wp2
     refine doEnd_r2 _ _ HF1.out rfl rfl ?_ ?_
     ·intro u pv s x hno
      rw [HP1.out] at hno
      exact absurd hno (fun h => by rcases h with h | h; cases h; rw [show nextF (some (p, F1)) = F1 from rfl, HP2.out] at h; cases h)
     ·intro x S' sv' mv' b0 b1 hfr hkb hsub hn0 hg0 hr0 hn1 hg1 hr1
      rw [HP1.out] at hfr hr0 hr1
      have hfr2 : Fr base fb (nextF (popF F1)) S' sv' mv' x := hfr
      have hr12 : wrow x b1 (gotN (popF F1)) := hr1
      rw [HP2.out] at hfr2 hr12
      have hfr3 : Fr base fb F2 S' sv' mv' x := hfr2
      have hr03 : wrow x b0 p := hr0
      have hr13 : wrow x b1 n := hr12
      have HPA := hid_of (part_I p n x hfr3)
      rw [HRE.out] at HPA
      have HLE := hid_of (reachF_len HRE.out hfr3.m32)
      obtain ⟨c0, c1, c2, c3⟩ := row_cells4 hr03
      obtain ⟨e0, e1, e2, e3⟩ := row_cells4 hr13
      have HKB := hid_of (HK1.out.trans hkb HS1.out)
      have HSU : Hid (∀ j ∈ S', j ∈ S ∨ w.heap.size ≤ j) := fun j hj => (hsub j hj).elim (HS1.out j) (fun h => Or.inr (Nat.le_trans HK1.out.size h))
      clear hfr hfr2 hfr3 hr0 hr1 hr12 hr03 hr13 hkb hsub
      simp only [fill, List.foldl_cons, List.foldl_nil, Act.put]
      rw [HP1.out]
      simp only [show gotN (some (p, F1)) = p from rfl, show nextF (some (p, F1)) = F1 from rfl]
      rw [HP2.out]
      simp only [show gotN (some (n, F2)) = n from rfl]
      go_wp2_with fail
      refine HPA.out.mono ?_
      rintro e w2 ⟨v, S2, sv2, mv2, rfl, hf2, hk2, hs2, hpo⟩
      have hcv := (hpo.rds hf2.me HLE.out).str
      have ho2 := hf2.row.cell (i := 26) (by decide)
      rw [show F3.cell sv2 mv2 26 = .string F3.out from rfl] at ho2
      have hz2 := hf2.row.frozen 26
      have HT := hid_of (To.pre (HKB.out.trans hk2 HSU.out) (fun j hj => (hs2 j hj).elim (HSU.out j) (fun h => Or.inr (Nat.le_trans HKB.out.size h))) (hf2.set1 26 (.string ⟨(memAt F3.mem a b).toArray⟩) (cell_out F3 sv2 mv2 _) rfl rfl rfl rfl hf2.gal))
      generalize memAt F3.mem a b = L at *
      obtain ⟨adv, cv, rfl, _⟩ := hpo
      clear hf2 hk2 hs2 HPA
      go_wp2
      first | go_end0 | refine bodyPost_ret (results_none rfl _ _ _) rfl ?_
      exact ⟨rfl, HT.out⟩
    ·rw [if_pos rfl]
     go_enter Tryz.func245, Tryz.ntmps245
     go_wp2
     refine doEnd_r2 _ _ HF1.out rfl rfl ?_ ?_
     ·intro u pv s x hno
      rw [HP1.out] at hno
      exact absurd hno (fun h => by rcases h with h | h; cases h; rw [show nextF (some (p, F1)) = F1 from rfl, HP2.out] at h; cases h)
     ·intro x S' sv' mv' b0 b1 hfr hkb hsub hn0 hg0 hr0 hn1 hg1 hr1
      rw [HP1.out] at hfr hr0 hr1
      have hfr2 : Fr base fb (nextF (popF F1)) S' sv' mv' x := hfr
      have hr12 : wrow x b1 (gotN (popF F1)) := hr1
      rw [HP2.out] at hfr2 hr12
      have hfr3 : Fr base fb F2 S' sv' mv' x := hfr2
      have hr03 : wrow x b0 p := hr0
      have hr13 : wrow x b1 n := hr12
      have HPA := hid_of (part_I p n x hfr3)
      rw [HRE.out] at HPA
      have HLE := hid_of (reachF_len HRE.out hfr3.m32)
      obtain ⟨c0, c1, c2, c3⟩ := row_cells4 hr03
      obtain ⟨e0, e1, e2, e3⟩ := row_cells4 hr13
      have HKB := hid_of (HK1.out.trans hkb HS1.out)
      have HSU : Hid (∀ j ∈ S', j ∈ S ∨ w.heap.size ≤ j) := fun j hj => (hsub j hj).elim (HS1.out j) (fun h => Or.inr (Nat.le_trans HK1.out.size h))
      clear hfr hfr2 hfr3 hr0 hr1 hr12 hr03 hr13 hkb hsub
      simp only [fill, List.foldl_cons, List.foldl_nil, Act.put]
      rw [HP1.out]
      simp only [show gotN (some (p, F1)) = p from rfl, show nextF (some (p, F1)) = F1 from rfl]
      rw [HP2.out]
      simp only [show gotN (some (n, F2)) = n from rfl]
      go_wp2_with fail
      refine HPA.out.mono ?_
      rintro e w2 ⟨v, S2, sv2, mv2, rfl, hf2, hk2, hs2, hpo⟩
      have hcv := (hpo.rds hf2.me HLE.out).str
      have ho2 := hf2.row.cell (i := 26) (by decide)
      rw [show F3.cell sv2 mv2 26 = .string F3.out from rfl] at ho2
      have hz2 := hf2.row.frozen 26
      have hs3 := hf2.row.cell (i := 25) (by decide)
      rw [show F3.cell sv2 mv2 25 = .int .u8 (F3.status : Int) from rfl] at hs3
      have hz3 := hf2.row.frozen 25
      have h4 := hf2.row.set 26 (.string ⟨(memAt F3.mem a b).toArray⟩)
      have h5 := h4.set 25 (.int .u8 1)
      have hT2 : To base fb { F3 with out := ⟨(memAt F3.mem a b).toArray⟩, status := 1 } S2 w2 ((w2.setCell ⟨fb, 26, none⟩ (.string ⟨(memAt F3.mem a b).toArray⟩)).setCell ⟨fb, 25, none⟩ (.int .u8 1)) := by
       refine hf2.own rfl rfl rfl rfl hf2.gal ?_ (((Kb.refl [fb] w2).setCell (Or.inl (by simp)) _).setCell (Or.inl (by simp)) _)
       rw [← show _ = _ from cell_status { F3 with out := ⟨(memAt F3.mem a b).toArray⟩ } sv2 mv2 1, ← cell_out F3 sv2 mv2]
       exact h5
      have HT := hid_of (To.pre (HKB.out.trans hk2 HSU.out) (fun j hj => (hs2 j hj).elim (HSU.out j) (fun h => Or.inr (Nat.le_trans HKB.out.size h))) hT2)
      clear h4 h5 hT2
      generalize memAt F3.mem a b = L at *
      obtain ⟨adv, cv, rfl, _⟩ := hpo
      clear hf2 hk2 hs2 HPA
      go_wp2
      first | go_end0 | refine bodyPost_ret (results_none rfl _ _ _) rfl ?_
      exact ⟨rfl, HT.out⟩
end
section
open Go.RowKit
def upN (p n : Nat) : Nat := if p % M ≤ n then p % M else 0
def upB (p n : Nat) : Bool := decide (p % M ≤ n)
theorem own_upTo : Own 284 := fun _ _ => by kernel_rfl
theorem own_part : Own 275 := fun _ _ => by kernel_rfl
theorem upTo_any (p n : Nat) (hn : n < 9223372036854775808) (w : World) : Calls Tryz.prog 284 #[wv p, .int .i64 (n : Int)] w fun e w' => e = .returned (.tuple #[.int .i64 ((upN p n : Nat) : Int), .bool (upB p n)]) ∧ Below w.heap.size w w' := by
 unfold upN upB
 by_cases h : p % M ≤ n
 ·rw [if_pos h, decide_eq_true h]
  exact (upTo_in p n hn h w).mono fun e w' ⟨m, h1, h2, h3⟩ => ⟨by rw [h2, h1.out], h3⟩
 ·rw [if_neg h, decide_eq_false h]
  exact (upTo_out p n hn (by omega) w).mono fun e w' ⟨h2, h3⟩ => ⟨h2, h3⟩
def Pr (k : Nat) (r : Option ((Nat × Nat) × FS)) : Kn := fun c _ v _ => k ≤ c.1 ∧ (∃ ad cp, v = .slice ad (match r with
 | some (x, _) => x.2
 | none => 0) cp) ∧ (c.1 = k → match r with
 | some (x, _) => PartOf c.2 v x.1 x.2
 | none => False)
theorem pr_stable (k : Nat) (r : Option ((Nat × Nat) × FS)) : Stable (Pr k r) := stable_of fun c c' S S' v x x' h hc _ _ => by
 rcases hc with rfl | hc
 ·exact h
 ·exact ⟨Nat.le_trans h.1 (Nat.le_of_lt hc), h.2.1, fun e => absurd h.1 (by omega)⟩
section
set_option maxRecDepth 100000
variable {s : Act} {x : World} {pos : String} {af : Array Edge} {g : Option (Nat × Bool)} {K : Act → World → Prop} {Q : Exit → Act → World → Prop}
theorem st_ext0 (t d : Nat) (u v : Value) {ty : TypeId} (he : s.tmps.getD t undef = .tuple #[u, v]) (hK : K (s.put (some d) u) x) :
  Oper.wp Tryz.prog ⟨some d, .extract (.tmp t) 0, ty, pos, af, g⟩ s x K Q := by
 have he2 : s.eval (.tmp t) = .tuple #[u, v] := he
 go_simp
 exact hK
theorem st_ext1 (t d : Nat) (u v : Value) {ty : TypeId} (he : s.tmps.getD t undef = .tuple #[u, v]) (hK : K (s.put (some d) v) x) :
  Oper.wp Tryz.prog ⟨some d, .extract (.tmp t) 1, ty, pos, af, g⟩ s x K Q := by
 have he2 : s.eval (.tmp t) = .tuple #[u, v] := he
 go_simp
 exact hK
abbrev ptr (p : Nat) : Value := .pointer (some ⟨p, 0, none⟩)
def PtrRow (N : Nat) (v : Value) (x : World) : Prop := ∃ p f, v = ptr p ∧ N < p ∧ x.rowIs p 24 4 f
def PtrIs (N n : Nat) (v : Value) (x : World) : Prop := ∃ p, v = ptr p ∧ N < p ∧ x.rowIs p 24 4 (u64s (limb n))
def Stored (N : Nat) (v : Value) (x x' : World) : Prop := ∃ p f v0 v1 v2 v3, v = ptr p ∧ N < p ∧ x.rowIs p 24 4 f ∧ x' = (((x.setCell ⟨p, 0, none⟩ v0).setCell ⟨p, 1, none⟩ v1).setCell ⟨p, 2, none⟩ v2).setCell ⟨p, 3, none⟩ v3
theorem st_outP {f d base fb : Nat} {xs : Array Operand} {vs : Array Value} {A : Array TypeId} {ty : TypeId} {r : Option ((Nat × Nat) × FS)} {S : List Nat} (hf : Own f) (hv : #[] ++ xs.map s.eval ++ #[] = vs) (hc : Calls Tryz.prog f vs x (OutP r base fb S x))
  (hpan : ∀ u pv x', r = none → Kb S x x' → Q (.panic [{ v := .iface u pv, recovered := false }]) s x')
  (hK : ∀ y v F' S' sv' mv' x', r = some (y, F') → Fr base fb F' S' sv' mv' x' → Kb S x x' → (∀ j ∈ S', j ∈ S ∨ x.heap.size ≤ j) → PartOf mv' v y.1 y.2 → K (s.put (some d) v) x') :
  Oper.wp Tryz.prog ⟨some d, .call ⟨.value (.func f), xs, A⟩, ty, pos, af, g⟩ s x K Q := by
 refine st_callP hf hv hc fun e x' ho => ?_
 unfold OutP at ho
 split at ho
 ·obtain ⟨v, S', sv', mv', h1, h2, h3, h4, h5⟩ := ho
  exact Or.inl ⟨_, h1, hK _ _ _ S' sv' mv' x' rfl h2 h3 h4 h5⟩
 ·obtain ⟨⟨u, pv, rfl⟩, h2⟩ := ho
  exact Or.inr ⟨_, rfl, hpan u pv x' rfl h2⟩
end
def Bd (F : FS) : Prop := F.mem.length % 32 ≠ 0
theorem bd_bad : Bd badF := by unfold Bd badF; simp
theorem no_bd {base fb : Nat} {F : FS} {S : List Nat} {sv mv : Value} {w : World} (hb : Bd F) (h : Fr base fb F S sv mv w) : False := hb h.m32
theorem bd_pop {F : FS} (h : Bd F) : Bd (nextF (popF F)) := by
 unfold popF
 split
 ·exact bd_bad
 ·exact h
theorem bd_push {n : Nat} {F : FS} (h : Bd F) : Bd (nextF (pushF n F)) := by
 unfold pushF
 split
 ·exact bd_bad
 ·exact h
def thenF {α β : Type} (r : Option (α × FS)) (k : Option (β × FS)) : Option (β × FS) := match r with
 | none => none
 | some _ => k
theorem thenF_none {α β : Type} {r : Option (α × FS)} {k : Option (β × FS)} (h : r = none ∨ k = none) : thenF r k = none := by
 cases r with
 | none => rfl
 | some y => exact h.resolve_left (by simp)
theorem thenF_ok {α β : Type} {r : Option (α × FS)} {k : Option (β × FS)} (h : r ≠ none) : thenF r k = k := by
 cases r with
 | none => exact absurd rfl h
 | some y => rfl
theorem bd_none {α : Type} {r : Option (α × FS)} (h : r = none) : Bd (nextF r) := by rw [h]; exact bd_bad
theorem unit_ok {r : Option (Unit × FS)} (h : r ≠ none) : r = some ((), nextF r) := by
 cases r with
 | none => exact absurd rfl h
 | some y => rfl
def partL (r : Option ((Nat × Nat) × FS)) : List UInt8 := match r with
 | some ((a, b), F) => memAt F.mem a b
 | none => []
theorem reachF_b {p n a b : Nat} {F F1 : FS} (h : reachF p n F = some ((a, b), F1)) : b = n % M := by
 unfold reachF at h
 split at h
 ·rename_i h0
  obtain ⟨h1, rfl⟩ := Prod.mk.inj (Option.some.inj h)
  obtain ⟨rfl, rfl⟩ := Prod.mk.inj h1
  omega
 ·split at h
  ·split at h
   ·cases h
   ·obtain ⟨h1, rfl⟩ := Prod.mk.inj (Option.some.inj h)
    obtain ⟨rfl, rfl⟩ := Prod.mk.inj h1
    rfl
  ·cases h
end
section
open Go.RowKit
theorem Fr.written {base fb : Nat} {F : FS} {S : List Nat} {sv mv : Value} {x x' : World} (h : Fr base fb F S sv mv x) {m : List UInt8} (hl : m.length = F.mem.length) (hk : Kb mv.ownBlock.toList x x') (hm : Bys x' base mv m) : Fr base fb { F with mem := m } S sv mv x' := by
 have hsub : ∀ k ∈ mv.ownBlock.toList, k ∈ S := fun k hk => by rw [h.foot]; exact List.mem_cons_of_mem _ (List.mem_append_right _ hk)
 refine ⟨?_, hk.own h.st (fun k hk2 hm2 => h.ms k hk2 (List.mem_cons_of_mem _ hm2)), hm, h.foot, h.stl, by show m.length ≤ _; rw [hl]; exact h.mel, h.gal, Nat.le_trans h.hb hk.size, zr_kb h.zr hk (fun h0 => h.no0 (hsub 0 h0)) h.hs, h.hb1, h.hfb, by show m.length % 32 = 0; rw [hl]; exact h.m32, h.jr.kb hk (fun g N f hr hg => h.bno g N f hr (hsub g hg))⟩
 have hr := hk.row h.row (fun hm2 => h.fm fb (by simpa using hm2) rfl)
 have e : F.cell sv mv = ({ F with mem := m } : FS).cell sv mv := by
  rw [← cell_mv F sv mv mv m]
  funext i
  by_cases hi : i = 20
  ·subst hi; rfl
  ·rw [if_neg hi]
 rw [e] at hr
 exact hr
theorem splice_map {α β : Type} (f : α → β) (L : List α) (o : Nat) (l : List α) : (splice L o l).map f = splice (L.map f) o (l.map f) := by
 unfold splice
 rw [List.map_append, List.map_append, List.map_take, List.map_drop, List.length_map]
theorem splice_take {α : Type} (L : List α) (o n : Nat) (l : List α) (h : o + l.length ≤ n) (hn : n ≤ L.length) : (splice L o l).take n = splice (L.take n) o l := by
 unfold splice
 rw [List.take_take, Nat.min_eq_left (by omega), List.take_append, List.take_append, List.length_take, Nat.min_eq_left (by omega), List.take_of_length_le (l := List.take o L) (by rw [List.length_take]; omega), List.take_of_length_le (l := l) (by omega), List.drop_take]
 congr 3
 omega
theorem splice_nil {α : Type} (L : List α) (o : Nat) : splice L o [] = L := by unfold splice; simp
set_option maxRecDepth 100000 in
theorem copy_mem {base fb : Nat} {F : FS} {S : List Nat} {sv mv v u : Value} {x : World} {a b : Nat} {L : List UInt8} (hf : Fr base fb F S sv mv x) (hp : PartOf mv v a b) (hr : Rds x u L) (hl : L.length = b) (ty : TypeId) :
  ∃ x', (Builtin.copy_ #[26, 26] ty #[v, u]).run Tryz.prog x = .ok (goInt b) x' ∧ Fr base fb { F with mem := splice F.mem a L } S sv mv x' ∧ Kb S x x' := by
 obtain ⟨ad, c, rfl, hbc, hp⟩ := hp
 obtain ⟨ad2, c2, rfl, hc2, hr⟩ := hr
 by_cases hb : b = 0
 ·subst hb
  obtain rfl : L = [] := List.eq_nil_of_length_eq_zero hl
  refine ⟨x, run_copy_none (P := Tryz.prog) x _ _ ty 5 ad ad2 0 c _ c2 und_bs sz_u8 (by simp), ?_, Kb.refl _ _⟩
  rw [splice_nil]
  exact hf
 ·obtain ⟨g, len, cap, rfl, rfl, hle⟩ := hp hb
  obtain ⟨g2, o2, rfl, hg2, hc⟩ := hr (fun e => hb (by rw [← hl, e]; rfl))
  rcases hf.me with ⟨hxl, ⟨h1, _⟩ | ⟨g', cap', cur, h1, h2, h3, h4, h5, h6, h7⟩⟩
  ·injection h1 with h1; cases h1
  ·injection h1 with h1 h8 h9
   injection h1 with h1
   injection h1 with h1
   subst h1 h8 h9
   have hrun := run_copy_row (P := Tryz.prog) x 26 26 ty 5 g a b c ⟨g2, o2, none⟩ L.length c2 cur 5 (L.map u8v) und_bs sz_u8 h3 (by rw [List.length_map, hl]; exact (Nat.min_self b).symm) (fun j v hj => by
    have hj2 : j < L.length := by
     have := (List.getElem?_eq_some_iff.1 hj).1
     rwa [List.length_map] at this
    rw [List.getElem?_map, List.getElem?_eq_getElem hj2] at hj
    have e : (⟨g2, o2, none⟩ : Addr).add j = ⟨g2, o2 + j, none⟩ := by simp [Addr.add, eq_comm]
    rw [e, hc j hj2]
    exact hj) (by rw [List.length_map, h6]; omega) (u8v_one L)
   rw [List.length_map, hl] at hrun
   rw [hl]
   refine ⟨_, hrun, ?_, ?_⟩
   ·refine hf.written (m := splice F.mem a L) (length_splice _ _ _ (by rw [hl]; exact hle)) ((Kb.refl _ x).setRow (Or.inl (by simp [Value.ownBlock])) _) ?_
    refine ⟨by rw [List.length_map]; omega, Or.inr ⟨g, cap, _, ?_, h2, setRow_heap x g _ _ _ _ h3, ?_, h5, ?_, ?_⟩⟩
    ·rw [length_splice _ _ _ (by rw [hl]; exact hle)]
    ·rw [length_splice _ _ _ (by rw [hl]; exact hle)]; exact h4
    ·have h9 : cur.toList.length = cap * 1 := by rw [← h6]; rfl
     show (_ : List Value).length = _
     rw [List.length_append, List.length_append, List.length_take, List.length_drop, List.length_map, hl, h9]
     omega
    ·rw [length_splice _ _ _ (by rw [hl]; exact hle), splice_map, ← h7]
     have e : ∀ (q : List Value), q = splice cur.toList a (L.map u8v) → q.take (F.mem.length * 1) = splice (cur.toList.take (F.mem.length * 1)) a (L.map u8v) := fun q hq => by
      rw [hq]
      exact splice_take _ _ _ _ (by rw [List.length_map]; omega) (by simp; omega)
     refine e _ ?_
     unfold splice
     rw [List.length_map, hl, List.append_assoc]
   ·refine (Kb.refl _ x).setRow (Or.inl ?_) _
    rw [hf.foot]
    exact List.mem_cons_of_mem _ (List.mem_append_right _ (by simp [Value.ownBlock]))
theorem st_copy {s : Act} {x : World} {pos : String} {af : Array Edge} {g : Option (Nat × Bool)} {K : Act → World → Prop} {Q : Exit → Act → World → Prop} {t u d : Nat} {T T' ty : TypeId} {v z r : Value} {x' : World} (hv : s.tmps.getD t undef = v) (hz : s.tmps.getD u undef = z)
  (hr : (Builtin.copy_ #[T, T'] ty #[v, z]).run Tryz.prog x = .ok r x') (h : K (s.put (some d) r) x') :
  Oper.wp Tryz.prog ⟨some d, .call ⟨.builtin .copy, #[.tmp t, .tmp u], #[T, T']⟩, ty, pos, af, g⟩ s x K Q := by
 have hv2 : s.eval (.tmp t) = v := hv
 have hz2 : s.eval (.tmp u) = z := hz
 unfold Oper.wp execOp
 simp only [resolve, invoke, builtin, Sem.run_bind, Sem.run_pure, Result.andThen_ok, List.map_toArray, List.map_cons, List.map_nil, hv2, hz2, hr]
 exact h
theorem st_sliceA {s : Act} {x : World} {pos : String} {af : Array Edge} {g : Option (Nat × Bool)} {K : Act → World → Prop} {Q : Exit → Act → World → Prop} {t d b : Nat} {ty : TypeId} (he : s.tmps.getD t undef = .pointer (some ⟨b, 0, none⟩)) (hK : K (s.put (some d) (.slice (some ⟨b, 0, none⟩) 32 32)) x) :
  Oper.wp Tryz.prog ⟨some d, .slice 298 (.tmp t) none none none, ty, pos, af, g⟩ s x K Q := by
 have he2 : s.eval (.tmp t) = .pointer (some ⟨b, 0, none⟩) := he
 go_simp
 exact hK
def AnyV : Kn := fun _ _ _ _ => True
theorem any_stable : Stable AnyV := stable_of fun _ _ _ _ _ _ _ h _ _ _ => h
def writeF (r : Option ((Nat × Nat) × FS)) (L : List UInt8) : FS := match r with
 | some ((a, _), F) => { F with mem := splice F.mem a L }
 | none => badF
theorem Pr.copy {k base fb p n : Nat} {G : FS} {mv v sv u : Value} {S : List Nat} {x : World} {L : List UInt8} (h : Pr k (reachF p n G) (k, mv) S v x) (hf : Fr base fb (nextF (reachF p n G)) S sv mv x) (hr : Rds x u L) (hl : L.length = n % M) (ty : TypeId) :
  ∃ y x', (Builtin.copy_ #[26, 26] ty #[v, u]).run Tryz.prog x = .ok y x' ∧ Fr base fb (writeF (reachF p n G) L) S sv mv x' ∧ Kb S x x' := by
 obtain ⟨_, _, h3⟩ := h
 have h3 := h3 rfl
 cases hq : reachF p n G with
 | none => rw [hq] at h3; exact h3.elim
 | some y =>
  obtain ⟨⟨a, b⟩, F1⟩ := y
  rw [hq] at h3 hf
  obtain ⟨x', h4, h5, h6⟩ := copy_mem (F := F1) hf (show PartOf mv v a b from h3) hr (by rw [hl, reachF_b hq]) ty
  exact ⟨_, x', h4, h5, h6⟩
end
section
open Go.RowKit
section
set_option maxRecDepth 100000
variable {s : Act} {x : World} {pos : String} {af : Array Edge} {g : Option (Nat × Bool)} {K : Act → World → Prop} {Q : Exit → Act → World → Prop}
def lowB (n : Nat) : UInt8 := UInt8.ofNat (n % 256)
end
def PrA (k : Nat) (r : Option ((Nat × Nat) × FS)) : Kn := fun c _ v _ => k ≤ c.1 ∧ (c.1 = k → match r with
 | some (y, _) => ∃ g len cap : Nat, c.2 = .slice (some ⟨g, 0, none⟩) len cap ∧ v = .pointer (some ⟨g, y.1, none⟩) ∧ y.1 + 1 ≤ len
 | none => False)
theorem prA_stable (k : Nat) (r : Option ((Nat × Nat) × FS)) : Stable (PrA k r) := stable_of fun c c' S S' v x x' h hc _ _ => by
 rcases hc with rfl | hc
 ·exact h
 ·exact ⟨Nat.le_trans h.1 (Nat.le_of_lt hc), fun e => absurd h.1 (by omega)⟩
end
end cin
end Go.Proofs.YtohoajjdoihekaaGreatDoor
