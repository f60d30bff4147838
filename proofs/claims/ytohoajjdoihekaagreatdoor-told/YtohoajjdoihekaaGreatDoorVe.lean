import Derived.Test.YtohoajjdoihekaaGreatDoorOf
import Derived.Maps.Views
set_option linter.unusedVariables false
set_option linter.unusedSimpArgs false
namespace Go.Proofs.YtohoajjdoihekaaGreatDoor
namespace cin
section
open Go.RowKit Go.Maps
set_option maxRecDepth 100000
theorem own_clone : Own 82 := fun _ _ => by kernel_rfl
theorem own_put : Own 81 := fun _ _ => by kernel_rfl
def PhK (R : World → Prop) (w : World) : Nat → World → Prop
 | 0, x => Below w.heap.size w x
 | 1, x => Below w.heap.size w x
 | _, x => R x
theorem phk_low {R : World → Prop} {w x : World} {k : Nat} (h : PhK R w k x) (hk : k ≤ 1) : Below w.heap.size w x := by
 match k, hk, h with
 | 0, _, h => exact h
 | 1, _, h => exact h
section
variable {pb ab sm at' bl : Nat} {code : ByteArray} {R : World → Prop} {s : Act} {x : World} {K : Act → World → Prop} {Q : Exit → Act → World → Prop} {ty1 : TypeId} {po1 : String} {af1 : Array Edge} {gd1 : Option (Nat × Bool)}
theorem kept_r11_o0 (e3 : s.tmps.getD 3 undef = .map (some ab))  (hK : K (s.put (some 30) (.map (some ab))) x) :
  Oper.wp Tryz.prog ⟨some 30, .move (.tmp 3), ty1, po1, af1, gd1⟩ s x K Q := by
 have f3 : s.eval (.tmp 3) = _ := e3
 go_simp
 exact hK
theorem kept_r11_o1 (e5 : s.tmps.getD 5 undef = .pointer (some ⟨pb, 0, none⟩))  (hK : K (s.put (some 31) (.pointer (some ⟨pb, 0, none⟩))) x) :
  Oper.wp Tryz.prog ⟨some 31, .fieldAddr 34 (.tmp 5) 0, ty1, po1, af1, gd1⟩ s x K Q := by
 have f5 : s.eval (.tmp 5) = _ := e5
 go_simp
 exact hK
theorem kept_r11_o2 (e31 : s.tmps.getD 31 undef = .pointer (some ⟨pb, 0, none⟩)) (c0 : x.cell? ⟨pb, 0, none⟩ = some (.int .u64 (limb at' 0))) (c1 : x.cell? ⟨pb, 1, none⟩ = some (.int .u64 (limb at' 1))) (c2 : x.cell? ⟨pb, 2, none⟩ = some (.int .u64 (limb at' 2))) (c3 : x.cell? ⟨pb, 3, none⟩ = some (.int .u64 (limb at' 3))) (hK : K (s.put (some 32) (.agg #[.int .u64 (limb at' 0), .int .u64 (limb at' 1), .int .u64 (limb at' 2), .int .u64 (limb at' 3)])) x) :
  Oper.wp Tryz.prog ⟨some 32, .load 24 (.tmp 31), ty1, po1, af1, gd1⟩ s x K Q := by
 have f31 : s.eval (.tmp 31) = _ := e31
 go_simp
 exact hK
theorem kept_r11_o3 (e5 : s.tmps.getD 5 undef = .pointer (some ⟨pb, 0, none⟩))  (hK : K (s.put (some 33) (.pointer (some ⟨pb, 4, none⟩))) x) :
  Oper.wp Tryz.prog ⟨some 33, .fieldAddr 34 (.tmp 5) 1, ty1, po1, af1, gd1⟩ s x K Q := by
 have f5 : s.eval (.tmp 5) = _ := e5
 go_simp
 exact hK
theorem kept_r11_o4 (e33 : s.tmps.getD 33 undef = .pointer (some ⟨pb, 4, none⟩)) (c4 : x.cell? ⟨pb, 4, none⟩ = some (.int .u64 (limb bl 0))) (c5 : x.cell? ⟨pb, 5, none⟩ = some (.int .u64 (limb bl 1))) (c6 : x.cell? ⟨pb, 6, none⟩ = some (.int .u64 (limb bl 2))) (c7 : x.cell? ⟨pb, 7, none⟩ = some (.int .u64 (limb bl 3))) (hK : K (s.put (some 34) (.agg #[.int .u64 (limb bl 0), .int .u64 (limb bl 1), .int .u64 (limb bl 2), .int .u64 (limb bl 3)])) x) :
  Oper.wp Tryz.prog ⟨some 34, .load 24 (.tmp 33), ty1, po1, af1, gd1⟩ s x K Q := by
 have f33 : s.eval (.tmp 33) = _ := e33
 go_simp
 exact hK
theorem kept_r11_o5 (e5 : s.tmps.getD 5 undef = .pointer (some ⟨pb, 0, none⟩))  (hK : K (s.put (some 35) (.pointer (some ⟨pb, 8, none⟩))) x) :
  Oper.wp Tryz.prog ⟨some 35, .fieldAddr 34 (.tmp 5) 2, ty1, po1, af1, gd1⟩ s x K Q := by
 have f5 : s.eval (.tmp 5) = _ := e5
 go_simp
 exact hK
theorem kept_r11_o6 (e35 : s.tmps.getD 35 undef = .pointer (some ⟨pb, 8, none⟩)) (c8 : x.cell? ⟨pb, 8, none⟩ = some (.string code)) (hK : K (s.put (some 36) (.string code)) x) :
  Oper.wp Tryz.prog ⟨some 36, .load 9 (.tmp 35), ty1, po1, af1, gd1⟩ s x K Q := by
 have f35 : s.eval (.tmp 35) = _ := e35
 go_simp
 exact hK
theorem kept_r11_o8 (e6 : s.tmps.getD 6 undef = .map (some sm))  (hK : K (s.put (some 38) (.map (some sm))) x) :
  Oper.wp Tryz.prog ⟨some 38, .move (.tmp 6), ty1, po1, af1, gd1⟩ s x K Q := by
 have f6 : s.eval (.tmp 6) = _ := e6
 go_simp
 exact hK
theorem kept_r11_o9 (e34 : s.tmps.getD 34 undef = .agg #[.int .u64 (limb bl 0), .int .u64 (limb bl 1), .int .u64 (limb bl 2), .int .u64 (limb bl 3)]) (e37 : s.tmps.getD 37 undef = .string code) (e38 : s.tmps.getD 38 undef = .map (some sm))  (hK : K (s.put (some 39) (.agg #[.int .u64 (limb bl 0), .int .u64 (limb bl 1), .int .u64 (limb bl 2), .int .u64 (limb bl 3), .string code, .map (some sm)])) x) :
  Oper.wp Tryz.prog ⟨some 39, .build 95 #[(0, .tmp 34), (1, .tmp 37), (2, .tmp 38)], ty1, po1, af1, gd1⟩ s x K Q := by
 have f34 : s.eval (.tmp 34) = _ := e34
 have g34 : s.tmps[34]?.getD undef = .agg #[.int .u64 (limb bl 0), .int .u64 (limb bl 1), .int .u64 (limb bl 2), .int .u64 (limb bl 3)] := by rw [← Array.getD_eq_getD_getElem?]; exact e34
 have f37 : s.eval (.tmp 37) = _ := e37
 have g37 : s.tmps[37]?.getD undef = .string code := by rw [← Array.getD_eq_getD_getElem?]; exact e37
 have f38 : s.eval (.tmp 38) = _ := e38
 have g38 : s.tmps[38]?.getD undef = .map (some sm) := by rw [← Array.getD_eq_getD_getElem?]; exact e38
 go_simp
 exact hK
set_option maxHeartbeats 4000000 in
theorem kept_r11 {pb ab sm at' bl : Nat} {code : ByteArray} {R : World → Prop} {Q : Exit → Act → World → Prop} (a : Act) (w : World) (hcs : code.size ≤ 100000) (hcells : ∀ x, Below w.heap.size w x → x.cell? ⟨pb, 0, none⟩ = some (.int .u64 (limb at' 0)) ∧ x.cell? ⟨pb, 1, none⟩ = some (.int .u64 (limb at' 1)) ∧ x.cell? ⟨pb, 2, none⟩ = some (.int .u64 (limb at' 2)) ∧ x.cell? ⟨pb, 3, none⟩ = some (.int .u64 (limb at' 3)) ∧ x.cell? ⟨pb, 4, none⟩ = some (.int .u64 (limb bl 0)) ∧ x.cell? ⟨pb, 5, none⟩ = some (.int .u64 (limb bl 1)) ∧ x.cell? ⟨pb, 6, none⟩ = some (.int .u64 (limb bl 2)) ∧ x.cell? ⟨pb, 7, none⟩ = some (.int .u64 (limb bl 3)) ∧ x.cell? ⟨pb, 8, none⟩ = some (.string code) ∧ x.cell? ⟨pb, 9, none⟩ = some (.slice none 0 0)) (hput : ∀ x, Below w.heap.size w x → Calls Tryz.prog 81 #[.map (some ab), .agg #[.int .u64 (limb at' 0), .int .u64 (limb at' 1), .int .u64 (limb at' 2), .int .u64 (limb at' 3)], .agg #[.int .u64 (limb bl 0), .int .u64 (limb bl 1), .int .u64 (limb bl 2), .int .u64 (limb bl 3), .string code, .map (some sm)]] x fun e w' => e = .returned (.tuple #[]) ∧ R w') (h0 : Below w.heap.size w w.drew) (hsz : decide (40 < a.tmps.size) = true) (c3 : a.tmps.getD 3 undef = .map (some ab)) (c5 : a.tmps.getD 5 undef = .pointer (some ⟨pb, 0, none⟩)) (c6 : a.tmps.getD 6 undef = .map (some sm))
  (hok : ∀ (x : World), (PhK R w) 2 x → Q .normal (fill a [(30, .map (some ab)), (31, .pointer (some ⟨pb, 0, none⟩)), (32, .agg #[.int .u64 (limb at' 0), .int .u64 (limb at' 1), .int .u64 (limb at' 2), .int .u64 (limb at' 3)]), (33, .pointer (some ⟨pb, 4, none⟩)), (34, .agg #[.int .u64 (limb bl 0), .int .u64 (limb bl 1), .int .u64 (limb bl 2), .int .u64 (limb bl 3)]), (35, .pointer (some ⟨pb, 8, none⟩)), (36, .string code), (37, .string code), (38, .map (some sm)), (39, .agg #[.int .u64 (limb bl 0), .int .u64 (limb bl 1), .int .u64 (limb bl 2), .int .u64 (limb bl 3), .string code, .map (some sm)]), (40, Value.tuple #[])]) x) :
  (Code.region 11 #[⟨some 30, .move (.tmp 3), 89, "accounts.go:60", #[], none⟩, ⟨some 31, .fieldAddr 34 (.tmp 5) 0, 0, "accounts.go:60", #[], none⟩, ⟨some 32, .load 24 (.tmp 31), 24, "accounts.go:60", #[⟨1, .data⟩], none⟩, ⟨some 33, .fieldAddr 34 (.tmp 5) 1, 0, "accounts.go:60", #[], none⟩, ⟨some 34, .load 24 (.tmp 33), 24, "accounts.go:60", #[⟨3, .data⟩], none⟩, ⟨some 35, .fieldAddr 34 (.tmp 5) 2, 0, "accounts.go:60", #[], none⟩, ⟨some 36, .load 9 (.tmp 35), 9, "accounts.go:60", #[⟨5, .data⟩], none⟩, ⟨some 37, .call ⟨.value (.func 82), #[.tmp 36], #[9]⟩, 9, "accounts.go:60", #[⟨6, .data⟩], none⟩, ⟨some 38, .move (.tmp 6), 93, "accounts.go:60", #[], none⟩, ⟨some 39, .build 95 #[(0, .tmp 34), (1, .tmp 37), (2, .tmp 38)], 95, "accounts.go:60", #[⟨4, .data⟩, ⟨7, .data⟩, ⟨8, .data⟩], none⟩, ⟨some 40, .call ⟨.value (.func 81), #[.tmp 30, .tmp 32, .tmp 39], #[89, 24, 95]⟩, 0, "accounts.go:60", #[⟨0, .data⟩, ⟨2, .data⟩, ⟨9, .data⟩, ⟨7, .chain⟩], none⟩] true).wp Tryz.prog Q a w := by
 have hsz := of_decide_eq_true hsz
 refine wp_region_ph (by kernel_rfl) (by kernel_rfl) (PhK R w) (fun _ _ _ => True) [(some 30, Cp (.map (some ab))), (some 31, Cp (.pointer (some ⟨pb, 0, none⟩))), (some 32, Cp (.agg #[.int .u64 (limb at' 0), .int .u64 (limb at' 1), .int .u64 (limb at' 2), .int .u64 (limb at' 3)])), (some 33, Cp (.pointer (some ⟨pb, 4, none⟩))), (some 34, Cp (.agg #[.int .u64 (limb bl 0), .int .u64 (limb bl 1), .int .u64 (limb bl 2), .int .u64 (limb bl 3)])), (some 35, Cp (.pointer (some ⟨pb, 8, none⟩))), (some 36, Cp (.string code)), (some 37, Cp (.string code)), (some 38, Cp (.map (some sm))), (some 39, Cp (.agg #[.int .u64 (limb bl 0), .int .u64 (limb bl 1), .int .u64 (limb bl 2), .int .u64 (limb bl 3), .string code, .map (some sm)])), (some 40, Cp (Value.tuple #[]))] [7, 10] rfl (by rfl) ?_ ?_ [(3, .map (some ab)), (5, .pointer (some ⟨pb, 0, none⟩)), (6, .map (some sm))] ?_ (by rfl) (by kernel_rfl) (by rfl) (by rfl) ?_ ?_ ?_ ?_
 ·refine List.all_eq_true.2 fun d hd => decide_eq_true ?_
  have hd2 : d ∈ ([30, 31, 32, 33, 34, 35, 36, 37, 38, 39, 40] : List Nat) := hd
  simp at hd2
  omega
 ·exact h0
 ·intro p hp
  simp only [List.mem_cons, List.not_mem_nil, or_false] at hp
  rcases hp with rfl | rfl | rfl
  ·exact c3
  ·exact c5
  ·exact c6
 ·intro j d T hj p v x x' hne hpl hph hrel ht
  have hjl : j < 11 := (List.getElem?_eq_some_iff.1 hj).1
  rcases ltq11 hjl with rfl | rfl | rfl | rfl | rfl | rfl | rfl | rfl | rfl | rfl | rfl
  ·obtain ⟨rfl, rfl⟩ := pk hj
   exact ht
  ·obtain ⟨rfl, rfl⟩ := pk hj
   exact ht
  ·obtain ⟨rfl, rfl⟩ := pk hj
   exact ht
  ·obtain ⟨rfl, rfl⟩ := pk hj
   exact ht
  ·obtain ⟨rfl, rfl⟩ := pk hj
   exact ht
  ·obtain ⟨rfl, rfl⟩ := pk hj
   exact ht
  ·obtain ⟨rfl, rfl⟩ := pk hj
   exact ht
  ·obtain ⟨rfl, rfl⟩ := pk hj
   exact ht
  ·obtain ⟨rfl, rfl⟩ := pk hj
   exact ht
  ·obtain ⟨rfl, rfl⟩ := pk hj
   exact ht
  ·obtain ⟨rfl, rfl⟩ := pk hj
   exact ht
 ·intro i o d T ho ht hic k s x hk hlo hhi hph hdf hb hdep
  have hi : i < 11 := (Array.getElem?_eq_some_iff.1 ho).1
  rcases ltq11 hi with rfl | rfl | rfl | rfl | rfl | rfl | rfl | rfl | rfl | rfl | rfl
  ·obtain rfl := sj ho
   obtain ⟨rfl, rfl⟩ := pk ht
   refine ⟨want_none rfl, fun K hK => ?_⟩
   exact kept_r11_o0 (hb (3, .map (some ab)) (List.Mem.head _))  (hK _ nn1 rfl)
  ·obtain rfl := sj ho
   obtain ⟨rfl, rfl⟩ := pk ht
   refine ⟨want_none rfl, fun K hK => ?_⟩
   exact kept_r11_o1 (hb (5, .pointer (some ⟨pb, 0, none⟩)) (List.Mem.tail _ (List.Mem.head _)))  (hK _ nn1 rfl)
  ·obtain rfl := sj ho
   obtain ⟨rfl, rfl⟩ := pk ht
   refine ⟨want_none rfl, fun K hK => ?_⟩
   obtain ⟨c0, c1, c2, c3, c4, c5, c6, c7, c8, c9⟩ := hcells x (phk_low hph (by have := hhi 1 10 rfl (by kernel_rfl); omega))
   exact kept_r11_o2 (hdep ⟨1, .data⟩ (by simp) rfl _ _ rfl) c0 c1 c2 c3 (hK _ nn1 rfl)
  ·obtain rfl := sj ho
   obtain ⟨rfl, rfl⟩ := pk ht
   refine ⟨want_none rfl, fun K hK => ?_⟩
   exact kept_r11_o3 (hb (5, .pointer (some ⟨pb, 0, none⟩)) (List.Mem.tail _ (List.Mem.head _)))  (hK _ nn1 rfl)
  ·obtain rfl := sj ho
   obtain ⟨rfl, rfl⟩ := pk ht
   refine ⟨want_none rfl, fun K hK => ?_⟩
   obtain ⟨c0, c1, c2, c3, c4, c5, c6, c7, c8, c9⟩ := hcells x (phk_low hph (by have := hhi 1 10 rfl (by kernel_rfl); omega))
   exact kept_r11_o4 (hdep ⟨3, .data⟩ (by simp) rfl _ _ rfl) c4 c5 c6 c7 (hK _ nn1 rfl)
  ·obtain rfl := sj ho
   obtain ⟨rfl, rfl⟩ := pk ht
   refine ⟨want_none rfl, fun K hK => ?_⟩
   exact kept_r11_o5 (hb (5, .pointer (some ⟨pb, 0, none⟩)) (List.Mem.tail _ (List.Mem.head _)))  (hK _ nn1 rfl)
  ·obtain rfl := sj ho
   obtain ⟨rfl, rfl⟩ := pk ht
   refine ⟨want_none rfl, fun K hK => ?_⟩
   obtain ⟨c0, c1, c2, c3, c4, c5, c6, c7, c8, c9⟩ := hcells x (phk_low hph (by have := hhi 0 7 rfl (by kernel_rfl); omega))
   exact kept_r11_o6 (hdep ⟨5, .data⟩ (by simp) rfl _ _ rfl) c8 (hK _ nn1 rfl)
  ·exact absurd (by simp) hic
  ·obtain rfl := sj ho
   obtain ⟨rfl, rfl⟩ := pk ht
   refine ⟨want_none rfl, fun K hK => ?_⟩
   exact kept_r11_o8 (hb (6, .map (some sm)) (List.Mem.tail _ (List.Mem.tail _ (List.Mem.head _))))  (hK _ nn1 rfl)
  ·obtain rfl := sj ho
   obtain ⟨rfl, rfl⟩ := pk ht
   refine ⟨want_none rfl, fun K hK => ?_⟩
   exact kept_r11_o9 (hdep ⟨4, .data⟩ (by simp) rfl _ _ rfl) (hdep ⟨7, .data⟩ (by simp) rfl _ _ rfl) (hdep ⟨8, .data⟩ (by simp) rfl _ _ rfl)  (hK _ nn1 rfl)
  ·exact absurd (by simp) hic
 ·intro p i o d T hp ho ht s x hph hdf hb hdep
  have hpl : p < 2 := (List.getElem?_eq_some_iff.1 hp).1
  rcases ltq2 hpl with rfl | rfl
  ·obtain rfl := sj hp
   obtain rfl := sj ho
   obtain ⟨rfl, rfl⟩ := pk ht
   refine ⟨want_none rfl, fun K hK => ?_⟩
   have hph : Below w.heap.size w x := hph
   refine st_call own_clone (ev1 (hdep ⟨6, .data⟩ (by simp) rfl _ _ rfl)) (clone_any code hcs x) ?_
   rintro e y ⟨rfl, hB⟩
   exact ⟨_, rfl, hK _ y (hph.trans (hB.mono hph.size)) trivial nn1 rfl⟩
  ·obtain rfl := sj hp
   obtain rfl := sj ho
   obtain ⟨rfl, rfl⟩ := pk ht
   refine ⟨want_none rfl, fun K hK => ?_⟩
   refine st_call own_put (ev3 (hdep ⟨0, .data⟩ (by simp) rfl _ _ rfl) (hdep ⟨2, .data⟩ (by simp) rfl _ _ rfl) (hdep ⟨9, .data⟩ (by simp) rfl _ _ rfl)) (hput x hph) ?_
   rintro e y ⟨rfl, hR⟩
   exact ⟨_, rfl, hK _ y hR trivial nn1 rfl⟩
 ·intro vs x hph hl hT
  obtain ⟨v0, v1, v2, v3, v4, v5, v6, v7, v8, v9, v10, rfl⟩ := lenq11 hl
  obtain rfl : v0 = .map (some ab) := hT 0 _ _ rfl
  obtain rfl : v1 = .pointer (some ⟨pb, 0, none⟩) := hT 1 _ _ rfl
  obtain rfl : v2 = .agg #[.int .u64 (limb at' 0), .int .u64 (limb at' 1), .int .u64 (limb at' 2), .int .u64 (limb at' 3)] := hT 2 _ _ rfl
  obtain rfl : v3 = .pointer (some ⟨pb, 4, none⟩) := hT 3 _ _ rfl
  obtain rfl : v4 = .agg #[.int .u64 (limb bl 0), .int .u64 (limb bl 1), .int .u64 (limb bl 2), .int .u64 (limb bl 3)] := hT 4 _ _ rfl
  obtain rfl : v5 = .pointer (some ⟨pb, 8, none⟩) := hT 5 _ _ rfl
  obtain rfl : v6 = .string code := hT 6 _ _ rfl
  obtain rfl : v7 = .string code := hT 7 _ _ rfl
  obtain rfl : v8 = .map (some sm) := hT 8 _ _ rfl
  obtain rfl : v9 = .agg #[.int .u64 (limb bl 0), .int .u64 (limb bl 1), .int .u64 (limb bl 2), .int .u64 (limb bl 3), .string code, .map (some sm)] := hT 9 _ _ rfl
  obtain rfl : v10 = Value.tuple #[] := hT 10 _ _ rfl
  exact hok x hph
end
end
section
open Go.RowKit Go.Maps
set_option maxHeartbeats 8000000
set_option maxRecDepth 100000
def noA : Nat → Acc := fun _ => ⟨0, ⟨#[]⟩, fun _ => 0⟩
def oneA (at' bl : Nat) (code : ByteArray) : Nat → Acc := setA noA at' ⟨bl, code, fun _ => 0⟩
theorem noA_no (m : Nat) : (noA m).no := ⟨rfl, rfl, fun _ => rfl⟩
theorem none_accs (w : World) : Accs w.heap.size 0 noA (fun _ => .map none) (w.alloc (.map #[] 0)) :=
 ⟨⟨_, AM.made w, fun m => ⟨fun _ => rfl, fun h => absurd (noA_no m) h⟩⟩, fun m h => absurd (noA_no m) h, fun m m' b h => absurd (noA_no m) h, fun m m' e => ⟨rfl, rfl⟩⟩
abbrev k3 (w : World) (at' bl : Nat) (code : ByteArray) : World := ((w.alloc (.map #[] 0)).alloc (.cells (acctC at' bl code) 34)).alloc (.map #[] 0)
theorem k3_below (w : World) (at' bl : Nat) (code : ByteArray) : Below w.heap.size w (k3 w at' bl code) := bal (bal (bal (Below.refl _ w) _) _) _
theorem k3_acct (w : World) (at' bl : Nat) (code : ByteArray) : AcctAt (k3 w at' bl code) (w.heap.size + 1) at' bl code := by
 have hr := World.rowIs_alloc (w.alloc (.map #[] 0)) (acctC at' bl code) 34 (fun i => (acctC at' bl code).getD i undef) (fun i hi => by rw [Array.getD_eq_getD_getElem?, Array.getElem?_eq_getElem hi]; rfl)
 rw [show (w.alloc (.map #[] 0)).heap.size = w.heap.size + 1 by simp] at hr
 exact row_below hr (bal (Below.refl _ _) _)
theorem k3_put {w x : World} {at' bl : Nat} {code : ByteArray} (hz : Zr w) (hx : Below (k3 w at' bl code).heap.size (k3 w at' bl code) x) : Calls Tryz.prog 81 #[.map (some w.heap.size), wv at', accV bl code (.map (some (w.heap.size + 1 + 1)))] x fun e w' => e = .returned (.tuple #[]) ∧ (∃ n sb, n ≤ 2 ∧ Accs w.heap.size n (oneA at' bl code) sb w' ∧ ∀ k, Afoot w.heap.size (oneA at' bl code) sb k → w.heap.size ≤ k) ∧ Below w.heap.size w w' := by
 have hB := k3_below w at' bl code
 have hBx : Below w.heap.size w x := hB.trans (hx.mono hB.size)
 have hac : Accs w.heap.size 0 noA (fun _ => .map none) x := ((none_accs w).kb (Kb.of_below (S := []) (bal (bal (Below.refl _ _) _) _)) (by simp)).kb (Kb.of_below (S := []) hx) (by simp)
 have hsm : AM x (w.heap.size + 1 + 1) 0 (slotF (fun _ => 0)) := by
  have h1 := AM.made ((w.alloc (.map #[] 0)).alloc (.cells (acctC at' bl code) 34))
  rw [show ((w.alloc (.map #[] 0)).alloc (.cells (acctC at' bl code) 34)).heap.size = w.heap.size + 1 + 1 by simp] at h1
  exact (h1.congr (fun m => rfl)).kb (Kb.of_below (S := []) hx) (by simp)
 refine (put_any (A := noA) (sb := fun _ => .map none) (n := 0) ⟨bl, code, fun _ => 0⟩ (.map (some (w.heap.size + 1 + 1))) x (hac.x at') (Or.inr ⟨_, rfl, by omega, hsm⟩) (fun m b _ h => absurd (noA_no m) h) (by omega) (hz.below hBx)).mono ?_
 rintro e y ⟨h1, h2, h3⟩
 refine ⟨h1, ⟨1, _, by omega, h2, fun k hf => ?_⟩, ?_⟩
 ·rcases hf with e | ⟨m, _, e⟩
  ·omega
  ·unfold setA at e
   split at e
   ·injection e with e
    injection e with e
    omega
   ·injection e with e
    cases e
 ·have hk : Kb [] w y := (Kb.of_below (S := []) hBx).trans h3 (fun i hi => Or.inr (by simp at hi; omega))
  exact hk.to_below
theorem kept_one (g at' bl : Nat) (code : ByteArray) (hc : code.size ≤ 1000) (w : World) (h : AcctAt w g at' bl code) (hz : Zr w) : Calls Tryz.prog 56 #[.slice (some ⟨g, 0, none⟩) 1 1] w fun e w' => e = .returned (.map (some w.heap.size)) ∧ (∃ n sb, n ≤ 2 ∧ Accs w.heap.size n (oneA at' bl code) sb w' ∧ ∀ k, Afoot w.heap.size (oneA at' bl code) sb k → w.heap.size ≤ k) ∧ Below w.heap.size w w' := by
 have HA := hid_of h
 have HZ := hid_of hz
 have HAC := hid_of (none_accs w)
 have hmm := @run_makeMap Tryz.prog
 clear h hz
 go_enter Tryz.func56, Tryz.ntmps56
 go_wp2
 go_loopw [12] (fun t12 wr => (t12 = .int .i64 0 ∧ wr = w.alloc (.map #[] 0)) ∨ (t12 = .int .i64 1 ∧ (∃ n sb, n ≤ 2 ∧ Accs w.heap.size n (oneA at' bl code) sb wr ∧ ∀ k, Afoot w.heap.size (oneA at' bl code) sb k → w.heap.size ≤ k) ∧ Below w.heap.size w wr)) (fun t12 _ => (1 - intOf t12).toNat)
 case atStart => exact Or.inl ⟨rfl, rfl⟩
 case round =>
  rcases hrel with ⟨rfl, rfl⟩ | ⟨rfl, hR, hB⟩
  ·have hB0 : Below w.heap.size w (w.alloc (.map #[] 0)) := bal (Below.refl _ w) _
   obtain ⟨c0, c1, c2, c3, c4, c5, c6, c7, c8, c9⟩ := (show AcctAt (w.alloc (.map #[] 0)) g at' bl code from row_below HA.out hB0).cells
   have HB0 := hid_of hB0
   clear hB0
   go_wp2
   go_loopw [20] (fun t20 wr2 => t20 = .int .i64 0 ∧ wr2 = k3 w at' bl code) (fun _ _ => 0)
   case atStart => exact ⟨rfl, rfl⟩
   case round =>
    obtain ⟨rfl, rfl⟩ := hrel
    have HK := hid_of (k3_acct w at' bl code)
    have HS := hid_of HZ.out
    clear c0 c1 c2 c3 c4 c5 c6 c7 c8 c9
    go_wp2
    refine kept_r11 (pb := w.heap.size + 1) (at' := at') (bl := bl) (code := code) (R := fun y => (∃ n sb, n ≤ 2 ∧ Accs w.heap.size n (oneA at' bl code) sb y ∧ ∀ k, Afoot w.heap.size (oneA at' bl code) sb k → w.heap.size ≤ k) ∧ Below w.heap.size w y) _ _ (by omega) (fun x hx => (show AcctAt x (w.heap.size + 1) at' bl code from row_below HK.out hx).cells) (fun x hx => k3_put HZ.out hx) (Below.refl _ _).drew rfl rfl rfl rfl ?_
    intro y hR
    have HR : Hid ((∃ n sb, n ≤ 2 ∧ Accs w.heap.size n (oneA at' bl code) sb y ∧ ∀ k, Afoot w.heap.size (oneA at' bl code) sb k → w.heap.size ≤ k) ∧ Below w.heap.size w y) := hR
    clear hR HK HS HAC HA HZ HB0
    simp only [fill, List.foldl_cons, List.foldl_nil, Act.put]
    simp only [List.setIfInBounds_toArray, List.set_cons_zero, List.set_cons_succ]
    go_wp2
    exact ⟨Or.inr ⟨rfl, HR.out⟩, by simp [intOf]⟩
  ·have HX := hid_of (And.intro hR hB)
   clear hR hB
   go_wp2
   go_ret
   exact ⟨rfl, HX.out⟩
theorem new_one (g at' bl : Nat) (code : ByteArray) (hc : code.size ≤ 1000) (w : World) (h : AcctAt w g at' bl code) (hz : Zr w) : Calls Tryz.prog 29 #[.slice (some ⟨g, 0, none⟩) 1 1] w fun e w' => ∃ gb ab n sb, e = .returned (.tuple #[.pointer (some ⟨gb, 0, none⟩), .int .i64 0]) ∧ n ≤ 2 ∧ HostAt gb ab n (oneA at' bl code) sb w' ∧ Below w.heap.size w w' ∧ w.heap.size ≤ gb ∧ ∀ k, Afoot ab (oneA at' bl code) sb k → w.heap.size ≤ k := by
 have HR := hid_of (isRight_one g at' bl code hc w h)
 have HA := hid_of h
 have HZ := hid_of hz
 clear h hz
 go_enter Tryz.func29, Tryz.ntmps29
 go_wp2_with fail
 refine HR.out.mono ?_
 rintro e w1 ⟨rfl, hb1⟩
 have HK := hid_of (kept_one g at' bl code hc w1 (row_below HA.out hb1) (HZ.out.below hb1))
 have HB1 := hid_of hb1
 clear hb1 HR
 go_wp2_with fail
 refine HK.out.mono ?_
 rintro e w2 ⟨rfl, ⟨n, sb, hn, hac, hft⟩, hb2⟩
 have hBw : Below w.heap.size w w2 := HB1.out.trans (hb2.mono HB1.out.size)
 have HH : Hid (HostAt w2.heap.size w1.heap.size n (oneA at' bl code) sb (w2.alloc (.cells #[.int .i32 0, .int .u32 0, .map (some w1.heap.size)] 91))) := by
  refine ⟨World.rowIs_alloc w2 _ _ _ (fun i hi => ?_), hac.kb (Kb.of_below (S := []) (bal (Below.refl _ w2) _)) (by simp), (HZ.out.below hBw).below (bal (Below.refl _ w2) _)⟩
  have hi : i < 3 := hi
  rcases ltq3 hi with rfl | rfl | rfl <;> rfl
 have HF : Hid (w.heap.size ≤ w2.heap.size ∧ ∀ k, Afoot w1.heap.size (oneA at' bl code) sb k → w.heap.size ≤ k) := ⟨hBw.size, fun k hk => Nat.le_trans HB1.out.size (hft k hk)⟩
 clear hft
 have HN := hid_of hn
 have HBW := hid_of (bal hBw (.cells #[.int .i32 0, .int .u32 0, .map (some w1.heap.size)] 91))
 clear hn hac hb2 hBw HK HB1
 go_wp2
 refine bodyPost_ret (v := .tuple #[.pointer (some ⟨w2.heap.size, 0, none⟩), .int .i64 0]) (by simp [results, Tryz.results29, go_sem]) rfl ⟨_, _, n, sb, rfl, HN.out, HH.out, HBW.out, HF.out⟩
theorem made_one (g at' bl : Nat) (code : ByteArray) (hc : code.size ≤ 1000) (w : World) (h : AcctAt w g at' bl code) (hz : Zr w) : Calls Tryz.prog 11 #[.slice (some ⟨g, 0, none⟩) 1 1] w fun e w' => ∃ gb ab n sb, e = .returned (.pointer (some ⟨gb, 0, none⟩)) ∧ n ≤ 2 ∧ HostAt gb ab n (oneA at' bl code) sb w' ∧ Below w.heap.size w w' ∧ w.heap.size ≤ gb ∧ ∀ k, Afoot ab (oneA at' bl code) sb k → w.heap.size ≤ k := by
 have HR := hid_of (new_one g at' bl code hc w h hz)
 clear h hz
 go_enter Tryz.func11, Tryz.ntmps11
 go_wp2_with fail
 refine HR.out.mono ?_
 rintro e w1 ⟨gb, ab, n, sb, rfl, hn, hh, hb⟩
 have HX := hid_of (And.intro hn (And.intro hh hb))
 clear hn hh hb HR
 go_wp2
 go_ret
 exact ⟨gb, ab, n, sb, rfl, HX.out⟩
end
section
open Go.RowKit Go.Maps
set_option maxRecDepth 100000
theorem M_pw : M = 2 ^ 256 := rfl
theorem ofL_bys (n : Nat) : ∀ k, k ≤ 32 → ofL (bys n (32 - k)) = (n % M) / 2 ^ (8 * (32 - k)) := by
 intro k
 induction k with
 | zero =>
  intro _
  have h : n % M < M := Nat.mod_lt _ (by decide)
  rw [show 8 * (32 - 0) = 256 from rfl, ← M_pw, Nat.div_eq_of_lt h]
  rfl
 | succ k ih =>
  intro hk
  have e : 32 - k = (32 - (k + 1)) + 1 := by omega
  rw [bys_step n (32 - (k + 1)) (by omega), ofL_snoc, ofNat_byn, ← e, ih (by omega), e]
  unfold byn
  generalize hi : 32 - (k + 1) = i
  have hi2 : i < 32 := by omega
  have h1 : n / 2 ^ (8 * i) % 256 = (n % M) / 2 ^ (8 * i) % 256 := by
   have e2 : (256 : Nat) = 2 ^ 8 := rfl
   rw [M_pw, e2]
   apply Nat.eq_of_testBit_eq
   intro j
   simp only [Nat.testBit_mod_two_pow, Nat.testBit_div_two_pow]
   by_cases hj : j < 8
   ·have : j + 8 * i < 256 := by omega
    simp [this]
   ·simp [hj]
  rw [h1, show 8 * (i + 1) = 8 * i + 8 by omega, Nat.pow_add, ← Nat.div_div_eq_div_mul]
  have := Nat.div_add_mod ((n % M) / 2 ^ (8 * i)) 256
  rw [show (2 : Nat) ^ 8 = 256 from rfl]
  omega
theorem ofL_bys0 (n : Nat) : ofL (bys n 0) = n % M := by
 have := ofL_bys n 32 (Nat.le_refl _)
 simpa using this
theorem ofL_zero (l : List UInt8) : ofL (0 :: l) = ofL l := rfl
theorem ofL_drop : ∀ l : List UInt8, ofL (l.dropWhile (· == 0)) = ofL l
 | [] => rfl
 | b :: l => by
  by_cases h : b = 0
  ·subst h
   rw [List.dropWhile_cons_of_pos (by rfl), ofL_drop l, ofL_zero]
  ·rw [List.dropWhile_cons_of_neg (by simpa using h)]
theorem ofL_pl (n : Nat) : ofL (pl n 0) = n % M := by
 unfold pl
 rw [ofL_drop, ofL_bys0]
theorem byt_at_list {s : ByteArray} {pre rest : List UInt8} {x : UInt8} (h : bl s = pre ++ x :: rest) : byt s pre.length = x.toNat := by
 rw [byt_bl, h, List.getD_eq_getElem?_getD, List.getElem?_append_right (Nat.le_refl _)]
 simp
theorem push_at {s : ByteArray} {pre rest : List UInt8} {n : Nat} (h : bl s = pre ++ (pcode n ++ rest)) (hp : pre.length + 1 < M) : byt s pre.length = 95 + (pl n 0).length ∧ pieceL s ((pre.length + 1) % M) (pl n 0).length = pl n 0 := by
 have h1 : bl s = pre ++ UInt8.ofNat (95 + (pl n 0).length) :: (pl n 0 ++ rest) := h
 refine ⟨(byt_at_list h1).trans (head_nat n 0), ?_⟩
 rw [Nat.mod_eq_of_lt hp]
 unfold pieceL
 have hl : s.size = pre.length + (1 + ((pl n 0).length + rest.length)) := by
  have : (bl s).length = s.size := rfl
  rw [← this, h1]
  simp
  omega
 rw [h1, List.drop_append, List.drop_of_length_le (by omega), List.nil_append, show pre.length + 1 - pre.length = 1 by omega, List.drop_succ_cons, List.drop_zero, List.take_left, show (pl n 0).length - (s.size - (pre.length + 1)) = 0 by omega]
 simp
theorem JdI.op {s : ByteArray} {i : Nat} {acc : List Bool} (h : JdI s i acc) (hi : i < s.size) (h1 : byt s i ≤ 95 ∨ 127 < byt s i) (h2 : byt s i ≠ 91) : JdI s (i + 1) acc := by
 have := h.step hi
 rw [if_neg (by omega), if_neg h2] at this
 exact this
theorem JdI.push {s : ByteArray} {i k : Nat} {acc : List Bool} (h : JdI s i acc) (hi : i < s.size) (h1 : byt s i = 95 + k) (hk : k ≤ 32) : JdI s (i + 1 + k) acc := by
 have := h.step hi
 rw [if_neg (show ¬ byt s i = 91 by omega)] at this
 by_cases h0 : k = 0
 ·subst h0
  rw [if_neg (by omega)] at this
  exact this
 ·rw [if_pos (by omega), h1, show 95 + k - 95 = k by omega] at this
  exact this
theorem jdF_keep {s : ByteArray} {j : Nat} : ∀ (f i : Nat) (acc : List Bool), acc.getD j false = true → (jdF s f i acc).getD j false = true := by
 intro f
 induction f with
 | zero => intro i acc h; exact h
 | succ f ih =>
  intro i acc h
  unfold jdF
  split
  ·refine ih _ _ ?_
   split
   ·rw [List.getD_eq_getElem?_getD, List.getElem?_set]
    split
    ·split
     ·rfl
     ·rename_i h1 h2
      subst h1
      rw [List.getD_eq_getElem?_getD, List.getElem?_eq_none (by omega)] at h
      cases h
    ·rw [← List.getD_eq_getElem?_getD]; exact h
   ·exact h
  ·exact h
theorem JdI.dest {s : ByteArray} {i : Nat} {acc : List Bool} (h : JdI s i acc) (hi : i < s.size) (h1 : byt s i = 91) : (jdL s).getD i false = true := by
 have h2 := h.step hi
 rw [if_pos h1] at h2
 obtain ⟨h3, f, h4, h5⟩ := h2
 rw [← h5]
 refine jdF_keep _ _ _ ?_
 rw [List.getD_eq_getElem?_getD, List.getElem?_set]
 have h6 := h.1
 rw [if_pos rfl, if_pos (by omega)]
 rfl
end
section
open Go.RowKit Go.Maps
set_option maxRecDepth 100000
def tlL (op L : Nat) : List UInt8 := [UInt8.ofNat op, 97, UInt8.ofNat (L / 256), UInt8.ofNat (L % 256), 86, 0, 91, 96, 1, 85, 96, 1, 84, 95, 82, 96, 32, 95, 243]
def Sf (tb : Nat) (s : ByteArray) (jd : Value) (g : Nat) (st : List Nat) (nx pc : Nat) (mem : List UInt8) : FS := { msgF tb s jd 1 9 0 ⟨#[]⟩ 10000 with gas := g, st := st, nx := nx, pc := pc, mem := mem }
section
variable {tb : Nat} {s : ByteArray} {jd : Value} {g : Nat} {st : List Nat} {nx pc : Nat} {mem : List UInt8} {T : TS}
theorem opF_Sf (h : nx < s.size) : opF (Sf tb s jd g st nx pc mem) = byt s nx := if_pos h
theorem sp {k : Nat} {l : List UInt8} (hb : byt s nx = 95 + k) (hv : pieceL s ((nx + 1) % M) k = l) (hn : nx < s.size) (hs : s.size ≤ 1000) (hk : k ≤ 32) (hg : 3 ≤ g) (hst : st.length < 1024) : StepTo (Sf tb s jd g st nx pc mem) T (some (Sf tb s jd (g - 3) (ofL l :: st) (nx + 1 + k) nx mem, T)) := by
 refine step_push (n := k) (by show nx ≤ _; omega) hs (by rw [opF_Sf hn]; exact hb) hk hg rfl ?_
 unfold pushBytesF pushF
 have e : (paidF (Sf tb s jd g st nx pc mem) 3).st.length ≠ 1024 := by show st.length ≠ 1024; omega
 rw [if_neg e]
 show some ((), _) = _
 have e2 : pieceL (paidF (Sf tb s jd g st nx pc mem) 3).code ((paidF (Sf tb s jd g st nx pc mem) 3).nx % M) k = l := hv
 rw [e2]
 rfl
theorem stj {L : Nat} (hb : byt s nx = 86) (hn : nx < s.size) (hs : s.size ≤ 1000) (hg : 8 ≤ g) (hL : L < s.size) (hd : (jdL s).getD L false = true) : StepTo (Sf tb s jd g (L :: st) nx pc mem) T (some (Sf tb s jd (g - 8) st L nx mem, T)) := by
 refine step_jump (by show nx ≤ _; omega) hs (by rw [opF_Sf hn]; exact hb) hg rfl ?_
 have hM : L % M = L := Nat.mod_eq_of_lt (Nat.lt_of_lt_of_le hL (Nat.le_trans hs (by decide)))
 unfold jumpP
 show jumpF L _ = _
 unfold jumpF upB
 rw [hM]
 show (if (decide (L ≤ s.size) && (jdL s).getD L false) = true then _ else _) = _
 rw [hd, decide_eq_true (Nat.le_of_lt hL), if_pos (show (true && true) = true from rfl)]
 rfl
theorem sd (hb : byt s nx = 91) (hn : nx < s.size) (hs : s.size ≤ 1000) (hg : 1 ≤ g) : StepTo (Sf tb s jd g st nx pc mem) T (some (Sf tb s jd (g - 1) st (nx + 1) nx mem, T)) :=
 step_dest (by show nx ≤ _; omega) hs (by rw [opF_Sf hn]; exact hb) hg
theorem sst {k v : Nat} (hb : byt s nx = 85) (hn : nx < s.size) (hs : s.size ≤ 1000) (hg : 200 ≤ g) (hc : T.ch.length < 1000000000) : StepTo (Sf tb s jd g (k :: v :: st) nx pc mem) T (some (Sf tb s jd (g - 200) st (nx + 1) nx mem, setT T 1 9 k v)) :=
 step_sstore (by show nx ≤ _; omega) hs (by rw [opF_Sf hn]; exact hb) hg hc rfl
theorem sld {k : Nat} (hb : byt s nx = 84) (hn : nx < s.size) (hs : s.size ≤ 1000) (hg : 100 ≤ g) (hst : st.length < 1024) : StepTo (Sf tb s jd g (k :: st) nx pc mem) T (some (Sf tb s jd (g - 100) (getT T 1 9 k :: st) (nx + 1) nx mem, T)) := by
 refine step_sload (by show nx ≤ _; omega) hs (by rw [opF_Sf hn]; exact hb) hg rfl ?_
 unfold loadF
 show pushF (getT T 1 9 k) _ = _
 unfold pushF
 rw [if_neg (show ¬ (nextF (popF (paidF (Sf tb s jd g (k :: st) nx pc mem) 100))).st.length = 1024 from (by show ¬ st.length = 1024; omega))]
 rfl
theorem bys_len0 (v : Nat) : (bys v 0).length = 32 := by simp [bys]
theorem reach0 {F : FS} (hm : F.mem = []) (hg : 3 ≤ F.gas) : reachF 0 32 F = some ((0, 32), { F with gas := F.gas - 3, mem := List.replicate 32 0 }) := by
 unfold reachF
 rw [if_neg (by decide), if_pos (by decide)]
 unfold growF
 rw [hm]
 rw [show stepsN (0 % M + 32 % M) = 1 from rfl, show stepsN ([] : List UInt8).length = 0 from rfl, if_neg (by omega)]
 unfold payF
 rw [if_neg (by omega)]
 simp [hm]
theorem reach32 {F : FS} (hm : F.mem.length = 32) : reachF 0 32 F = some ((0, 32), F) := by
 unfold reachF
 rw [if_neg (by decide), if_pos (by decide)]
 unfold growF
 rw [hm]
 rw [if_pos (by decide)]
 rfl
theorem smst {v : Nat} (hb : byt s nx = 82) (hn : nx < s.size) (hs : s.size ≤ 1000) (hg : 6 ≤ g) : StepTo (Sf tb s jd g (0 :: v :: st) nx pc []) T (some (Sf tb s jd (g - 6) st (nx + 1) nx (bys v 0), T)) := by
 refine step_mstore (by show nx ≤ _; omega) hs (by rw [opF_Sf hn]; exact hb) (by show 3 ≤ g; omega) rfl ?_
 unfold storeWordF
 have h := reach0 (F := pop2 (paidF (Sf tb s jd g (0 :: v :: st) nx pc []) 3)) rfl (by show 3 ≤ g - 3; omega)
 have e1 : top1 (paidF (Sf tb s jd g (0 :: v :: st) nx pc []) 3) = 0 := rfl
 have e2 : top2 (paidF (Sf tb s jd g (0 :: v :: st) nx pc []) 3) = v := rfl
 rw [e1, e2, h]
 show some ((), _) = _
 unfold writeF
 have e3 : splice (List.replicate 32 (0 : UInt8)) 0 (bys v 0) = bys v 0 := by
  unfold splice
  simp [bys_len0]
 dsimp only
 rw [e3]
 have e4 : (pop2 (paidF (Sf tb s jd g (0 :: v :: st) nx pc []) 3)).gas - 3 = g - 6 := by show g - 3 - 3 = g - 6; omega
 rw [e4]
 rfl
theorem sret (hb : byt s nx = 243) (hn : nx < s.size) (hs : s.size ≤ 1000) (hm : mem.length = 32) : StepTo (Sf tb s jd g (0 :: 32 :: st) nx pc mem) T (some ({ Sf tb s jd g st (nx + 1) nx mem with ended := true, out := ⟨mem.toArray⟩ }, T)) := by
 refine step_return (by show nx ≤ _; omega) hs (by rw [opF_Sf hn]; exact hb) rfl ?_
 unfold endF
 rw [if_neg (by omega)]
 show (match reachF 0 32 ({ Sf tb s jd g st (nx + 1) nx mem with ended := true } : FS) with
  | none => none
  | some ((a, b), F3) => some ((), if (243 : Nat) = 253 then { F3 with out := ⟨(memAt F3.mem a b).toArray⟩, status := 1 } else { F3 with out := ⟨(memAt F3.mem a b).toArray⟩ })) = _
 rw [reach32 (show ({ Sf tb s jd g st (nx + 1) nx mem with ended := true } : FS).mem.length = 32 from hm)]
 dsimp only
 rw [if_neg (by omega)]
 have e : memAt ({ Sf tb s jd g st (nx + 1) nx mem with ended := true } : FS).mem 0 32 = mem := by
  show (mem.drop 0).take 32 = mem
  rw [List.drop_zero, List.take_of_length_le (by omega)]
 rw [e]
end
end
section
open Go.RowKit Go.Maps
set_option maxRecDepth 100000
theorem fcalc_c {op a b c c' : Nat} (h8 : op ≠ 8) (h9 : op ≠ 9) : fcalc op a b c = fcalc op a b c' := by
 unfold fcalc
 rw [if_neg h8, if_neg h8, if_neg h9, if_neg h9]
theorem fcalc_bc {op a b c b' c' : Nat} (h : op = 21 ∨ op = 25) : fcalc op a b c = fcalc op a b' c' := by
 rcases h with rfl | rfl <;> rfl
theorem payF_ok {c : Nat} {F : FS} (h : c ≤ F.gas) : payF c F = some ((), { F with gas := F.gas - c }) := if_neg (by omega)
theorem pl_len0 (n : Nat) : (pl n 0).length ≤ 32 := pl_len n 0
section
variable {s : ByteArray} {g : Nat} {nx : Nat}
theorem soper {op a b c : Nat} (hb : byt s nx = op) (hop : opN op = true) (hn : nx < s.size) (hs : s.size ≤ 1000) (hg : 400 ≤ g) :
  ∃ R g', R.length ≤ 2 ∧ g - 400 ≤ g' ∧ g' ≤ g ∧ ∀ tb jd pc T, StepTo (Sf tb s jd g [a, b, c] nx pc []) T (some (Sf tb s jd g' (fcalc op (a % M) (b % M) (c % M) :: R) (nx + 1) nx [], T)) := by
 obtain ⟨q, hq, hq2⟩ : ∃ q, costN op = some q ∧ q ≤ 10 := by
  have hr : (1 ≤ op ∧ op ≤ 11) ∨ (16 ≤ op ∧ op ≤ 29) := by
   unfold opN at hop
   simp at hop
   omega
  unfold costN
  rw [if_neg (by omega), if_neg (by omega), if_neg (by omega), if_neg (by omega), if_neg (by omega)]
  by_cases h10 : op = 10
  ·exact ⟨10, by rw [if_pos (by omega)], by omega⟩
  ·refine ⟨5, ?_, by omega⟩
   rw [if_neg (by omega), if_neg (by omega), if_neg (by omega)]
   unfold costRow
   rw [if_pos hop]
 have ho : ∀ tb jd pc, opF (Sf tb s jd g [a, b, c] nx pc []) = op := fun tb jd pc => by rw [opF_Sf hn]; exact hb
 by_cases h1 : op = 21 ∨ op = 25
 ·refine ⟨[b, c], g - q, by simp, by omega, by omega, fun tb jd pc T => step_oper (by show nx ≤ _; omega) hs (ho tb jd pc) hop hq (by omega) (by show q ≤ g; omega) rfl ?_⟩
  unfold operF
  rw [show countN op = 1 by unfold countN; rw [if_pos h1]]
  show (match (if op = 10 then payF _ _ else some ((), _)) with
   | none => none
   | some (_, G2) => pushF _ G2) = _
  rw [if_neg (by omega)]
  show pushF _ _ = _
  rw [fcalc_bc h1 (b' := b % M) (c' := c % M)]
  rfl
 ·by_cases h3 : op = 8 ∨ op = 9
  ·refine ⟨[], g - q, by simp, by omega, by omega, fun tb jd pc T => step_oper (by show nx ≤ _; omega) hs (ho tb jd pc) hop hq (by omega) (by show q ≤ g; omega) rfl ?_⟩
   unfold operF
   rw [show countN op = 3 by unfold countN; rw [if_neg h1, if_pos h3]]
   show (match (if op = 10 then payF _ _ else some ((), _)) with
    | none => none
    | some (_, G2) => pushF _ G2) = _
   rw [if_neg (by omega)]
   rfl
  ·by_cases h10 : op = 10
   ·have hl := pl_len0 b
    refine ⟨[c], g - q - 10 * (pl b 0).length, by simp, by omega, by omega, fun tb jd pc T => step_oper (by show nx ≤ _; omega) hs (ho tb jd pc) hop hq (by omega) (by show q ≤ g; omega) rfl ?_⟩
    unfold operF
    rw [show countN op = 2 by unfold countN; rw [if_neg h1, if_neg h3]]
    show (match (if op = 10 then payF (10 * (pl b 0).length) _ else some ((), _)) with
     | none => none
     | some (_, G2) => pushF _ G2) = _
    rw [if_pos h10]
    rw [payF_ok (by show 10 * (pl b 0).length ≤ g - q; omega)]
    show pushF _ _ = _
    rw [fcalc_c (c' := c % M) (by omega) (by omega)]
    rfl
   ·refine ⟨[c], g - q, by simp, by omega, by omega, fun tb jd pc T => step_oper (by show nx ≤ _; omega) hs (ho tb jd pc) hop hq (by omega) (by show q ≤ g; omega) rfl ?_⟩
    unfold operF
    rw [show countN op = 2 by unfold countN; rw [if_neg h1, if_neg h3]]
    show (match (if op = 10 then payF _ _ else some ((), _)) with
     | none => none
     | some (_, G2) => pushF _ G2) = _
    rw [if_neg h10]
    show pushF _ _ = _
    rw [fcalc_c (c' := c % M) (by omega) (by omega)]
    rfl
end
end
section
open Go.RowKit Go.Maps
set_option maxRecDepth 100000
theorem piece_at {s : ByteArray} {pre l rest : List UInt8} (h : bl s = pre ++ (l ++ rest)) (hp : pre.length < M) : pieceL s (pre.length % M) l.length = l := by
 rw [Nat.mod_eq_of_lt hp]
 unfold pieceL
 have hl : s.size = pre.length + (l.length + rest.length) := by
  have : (bl s).length = s.size := rfl
  rw [← this, h]
  simp
 rw [h, List.drop_append, List.drop_of_length_le (Nat.le_refl _), List.nil_append, Nat.sub_self, List.drop_zero, List.take_left, show l.length - (s.size - pre.length) = 0 by omega]
 simp
theorem byt_tail {s : ByteArray} {pre t : List UInt8} (h : bl s = pre ++ t) (i : Nat) : byt s (pre.length + i) = (t.getD i 0).toNat := by
 rw [byt_bl, h, List.getD_eq_getElem?_getD, List.getElem?_append_right (by omega), Nat.add_sub_cancel_left, ← List.getD_eq_getElem?_getD]
theorem pcode_l1 (n : Nat) : (pcode n).length = 1 + (pl n 0).length := by
 unfold pcode pcs
 simp
 omega
theorem ofL_two (L : Nat) (h : L < 65536) : ofL [UInt8.ofNat (L / 256), UInt8.ofNat (L % 256)] = L := by
 unfold ofL
 simp only [List.foldl_cons, List.foldl_nil, Nat.zero_mul, Nat.zero_add]
 rw [UInt8.toNat_ofNat_of_lt' (by show L / 256 < 256; omega), UInt8.toNat_ofNat_of_lt' (by show L % 256 < 256; omega)]
 omega
theorem getT_set (T : TS) (k r : Nat) : getT (setT T 1 9 k r) 1 9 k = r := by
 unfold getT setT putT
 simp [setA, setS]
theorem told_chain {a b c op : Nat} {s : ByteArray} (hs : bl s = pcode c ++ (pcode b ++ (pcode a ++ tlL op ((pcode c ++ (pcode b ++ pcode a)).length + 6)))) (hop : opN op = true) :
  ∃ g', 0 < g' ∧ g' < 10000 ∧ ∀ tb jd T, T.ch.length < 1000 → ∃ F', Chain 16 (msgF tb s jd 1 9 0 ⟨#[]⟩ 10000) T (some F') (setT T 1 9 1 (fcalc op (a % M) (b % M) (c % M))) ∧ F'.status = 0 ∧ F'.gas = g' ∧ F'.out = ⟨(bys (fcalc op (a % M) (b % M) (c % M)) 0).toArray⟩ := by
 have hla := pcode_l1 a
 have hlb := pcode_l1 b
 have hlc := pcode_l1 c
 have pa := pl_len0 a
 have pb := pl_len0 b
 have pc := pl_len0 c
 have hM : (100000 : Nat) < M := by decide
 obtain ⟨P, hP⟩ : ∃ P, P = (pcode c ++ (pcode b ++ pcode a)).length := ⟨_, rfl⟩
 have hP2 : P = (pcode c).length + ((pcode b).length + (pcode a).length) := by rw [hP]; simp
 rw [← hP] at hs
 have h3 : bl s = (pcode c ++ (pcode b ++ pcode a)) ++ tlL op (P + 6) := by rw [hs]; simp
 have hsz : s.size = P + 19 := by
  have : (bl s).length = s.size := rfl
  rw [← this, h3, List.length_append, ← hP]
  rfl
 have hss : s.size ≤ 1000 := by omega
 have bt : ∀ i, byt s (P + i) = ((tlL op (P + 6)).getD i 0).toNat := fun i => by rw [hP]; exact byt_tail (hP ▸ h3) i
 have hopl : op ≤ 29 := by
  unfold opN at hop
  simp at hop
  omega
 have b0 : byt s P = op := by
  have := bt 0
  rw [Nat.add_zero] at this
  rw [this]
  show (UInt8.ofNat op).toNat = op
  exact UInt8.toNat_ofNat_of_lt' (by show op < 256; omega)
 -- the three numbers
 have c1 := push_at (pre := []) (n := c) (rest := pcode b ++ (pcode a ++ tlL op (P + 6))) hs (by simp; omega)
 have c2 := push_at (pre := pcode c) (n := b) (rest := pcode a ++ tlL op (P + 6)) hs (by omega)
 have c3 := push_at (pre := pcode c ++ pcode b) (n := a) (rest := tlL op (P + 6)) (by rw [hs]; simp) (by simp; omega)
 simp only [List.length_nil, Nat.zero_add] at c1
 rw [List.length_append] at c3
 -- the place of the jump
 have hd : (jdL s).getD (P + 6) false = true := by
  have j0 := JdI.start s
  have j1 := j0.push (by omega) c1.1 pc
  rw [show 0 + 1 + (pl c 0).length = (pcode c).length by omega] at j1
  have j2 := j1.push (by omega) c2.1 pb
  rw [show (pcode c).length + 1 + (pl b 0).length = (pcode c).length + (pcode b).length by omega] at j2
  have j3 := j2.push (by omega) c3.1 pa
  rw [show (pcode c).length + (pcode b).length + 1 + (pl a 0).length = P by omega] at j3
  have j4 := j3.op (by omega) (by omega) (by omega)
  have j5 := j4.push (k := 2) (by omega) (bt 1) (by omega)
  have j6 := j5.op (by omega) (by have : byt s (P + 1 + 1 + 2) = 86 := bt 4; omega) (by have : byt s (P + 1 + 1 + 2) = 86 := bt 4; omega)
  have j7 := j6.op (by omega) (by have : byt s (P + 1 + 1 + 2 + 1) = 0 := bt 5; omega) (by have : byt s (P + 1 + 1 + 2 + 1) = 0 := bt 5; omega)
  exact j7.dest (by omega) (bt 6)
 -- the bytes of the small numbers
 have q1 : pieceL s ((P + 1 + 1) % M) 2 = [UInt8.ofNat ((P + 6) / 256), UInt8.ofNat ((P + 6) % 256)] := by
  have := piece_at (s := s) (pre := (pcode c ++ (pcode b ++ pcode a)) ++ [UInt8.ofNat op, 97]) (l := [UInt8.ofNat ((P + 6) / 256), UInt8.ofNat ((P + 6) % 256)]) (rest := (tlL op (P + 6)).drop 4) (by rw [h3]; simp [tlL]) (by simp; omega)
  rw [List.length_append, ← hP] at this
  exact this
 have q2 : pieceL s ((P + 7 + 1) % M) 1 = [1] := by
  have := piece_at (s := s) (pre := (pcode c ++ (pcode b ++ pcode a)) ++ (tlL op (P + 6)).take 8) (l := [1]) (rest := (tlL op (P + 6)).drop 9) (by rw [h3]; simp [tlL]) (by simp [tlL]; omega)
  rw [List.length_append, ← hP] at this
  exact this
 have q3 : pieceL s ((P + 10 + 1) % M) 1 = [1] := by
  have := piece_at (s := s) (pre := (pcode c ++ (pcode b ++ pcode a)) ++ (tlL op (P + 6)).take 11) (l := [1]) (rest := (tlL op (P + 6)).drop 12) (by rw [h3]; simp [tlL]) (by simp [tlL]; omega)
  rw [List.length_append, ← hP] at this
  exact this
 have q4 : pieceL s ((P + 15 + 1) % M) 1 = [32] := by
  have := piece_at (s := s) (pre := (pcode c ++ (pcode b ++ pcode a)) ++ (tlL op (P + 6)).take 16) (l := [32]) (rest := (tlL op (P + 6)).drop 17) (by rw [h3]; simp [tlL]) (by simp [tlL]; omega)
  rw [List.length_append, ← hP] at this
  exact this
 have q0 : ∀ p, pieceL s p 0 = [] := fun p => by unfold pieceL; simp
 obtain ⟨R, g', hR, hg1, hg2, hst⟩ := soper (a := ofL (pl a 0)) (b := ofL (pl b 0)) (c := ofL (pl c 0)) (g := 9991) (nx := P) b0 hop (by omega) hss (by omega)
 rw [ofL_pl, ofL_pl, ofL_pl, Nat.mod_mod, Nat.mod_mod, Nat.mod_mod] at hst
 obtain ⟨r, hr⟩ : ∃ r, r = fcalc op (a % M) (b % M) (c % M) := ⟨_, rfl⟩
 rw [← hr] at hst ⊢
 refine ⟨g' - 333, by omega, by omega, fun tb jd T hT => ?_⟩
 refine ⟨{ Sf tb s jd (g' - 333) R (P + 18 + 1) (P + 18) (bys r 0) with ended := true, out := ⟨(bys r 0).toArray⟩ }, ?_, rfl, rfl, rfl⟩
 have s1 := sp (tb := tb) (s := s) (jd := jd) (g := 10000) (st := []) (nx := 0) (pc := 0) (mem := []) (T := T) c1.1 c1.2 (by omega) hss pc (by omega) (by simp)
 have s2 := sp (tb := tb) (s := s) (jd := jd) (g := 9997) (st := [ofL (pl c 0)]) (nx := (pcode c).length) (pc := 0) (mem := []) (T := T) c2.1 c2.2 (by omega) hss pb (by omega) (by simp)
 have s3 := sp (tb := tb) (s := s) (jd := jd) (g := 9994) (st := [ofL (pl b 0), ofL (pl c 0)]) (nx := (pcode c).length + (pcode b).length) (pc := (pcode c).length) (mem := []) (T := T) c3.1 c3.2 (by omega) hss pa (by omega) (by simp)
 rw [show 0 + 1 + (pl c 0).length = (pcode c).length by omega] at s1
 rw [show (pcode c).length + 1 + (pl b 0).length = (pcode c).length + (pcode b).length by omega] at s2
 rw [show (pcode c).length + (pcode b).length + 1 + (pl a 0).length = P by omega] at s3
 simp only [ofL_pl] at s1 s2 s3
 have s4 := hst tb jd ((pcode c).length + (pcode b).length) T
 have s5 := sp (tb := tb) (s := s) (jd := jd) (g := g') (st := r :: R) (nx := P + 1) (pc := P) (mem := []) (T := T) (k := 2) (bt 1) q1 (by omega) hss (by omega) (by omega) (by simp; omega)
 rw [ofL_two _ (by omega)] at s5
 have s6 := stj (tb := tb) (s := s) (jd := jd) (g := g' - 3) (st := r :: R) (nx := P + 1 + 1 + 2) (pc := P + 1) (mem := []) (T := T) (L := P + 6) (bt 4) (by omega) hss (by omega) (by omega) hd
 have s7 := sd (tb := tb) (s := s) (jd := jd) (g := g' - 3 - 8) (st := r :: R) (nx := P + 6) (pc := P + 1 + 1 + 2) (mem := []) (T := T) (bt 6) (by omega) hss (by omega)
 have s8 := sp (tb := tb) (s := s) (jd := jd) (g := g' - 3 - 8 - 1) (st := r :: R) (nx := P + 7) (pc := P + 6) (mem := []) (T := T) (k := 1) (bt 7) q2 (by omega) hss (by omega) (by omega) (by simp; omega)
 have s9 := sst (tb := tb) (s := s) (jd := jd) (g := g' - 3 - 8 - 1 - 3) (st := R) (nx := P + 7 + 1 + 1) (pc := P + 7) (mem := []) (T := T) (k := 1) (v := r) (bt 9) (by omega) hss (by omega) (by omega)
 have s10 := sp (tb := tb) (s := s) (jd := jd) (g := g' - 3 - 8 - 1 - 3 - 200) (st := R) (nx := P + 10) (pc := P + 7 + 1 + 1) (mem := []) (T := setT T 1 9 1 r) (k := 1) (bt 10) q3 (by omega) hss (by omega) (by omega) (by omega)
 have s11 := sld (tb := tb) (s := s) (jd := jd) (g := g' - 3 - 8 - 1 - 3 - 200 - 3) (st := R) (nx := P + 10 + 1 + 1) (pc := P + 10) (mem := []) (T := setT T 1 9 1 r) (k := 1) (bt 12) (by omega) hss (by omega) (by omega)
 rw [getT_set] at s11
 have s12 := sp (tb := tb) (s := s) (jd := jd) (g := g' - 3 - 8 - 1 - 3 - 200 - 3 - 100) (st := r :: R) (nx := P + 13) (pc := P + 10 + 1 + 1) (mem := []) (T := setT T 1 9 1 r) (k := 0) (bt 13) (q0 _) (by omega) hss (by omega) (by omega) (by simp; omega)
 have s13 := smst (tb := tb) (s := s) (jd := jd) (g := g' - 3 - 8 - 1 - 3 - 200 - 3 - 100 - 3) (st := R) (nx := P + 13 + 1 + 0) (pc := P + 13) (T := setT T 1 9 1 r) (v := r) (bt 14) (by omega) hss (by omega)
 have s14 := sp (tb := tb) (s := s) (jd := jd) (g := g' - 3 - 8 - 1 - 3 - 200 - 3 - 100 - 3 - 6) (st := R) (nx := P + 15) (pc := P + 13 + 1 + 0) (mem := bys r 0) (T := setT T 1 9 1 r) (k := 1) (bt 15) q4 (by omega) hss (by omega) (by omega) (by omega)
 have s15 := sp (tb := tb) (s := s) (jd := jd) (g := g' - 3 - 8 - 1 - 3 - 200 - 3 - 100 - 3 - 6 - 3) (st := 32 :: R) (nx := P + 15 + 1 + 1) (pc := P + 15) (mem := bys r 0) (T := setT T 1 9 1 r) (k := 0) (bt 17) (q0 _) (by omega) hss (by omega) (by omega) (by simp; omega)
 have s16 := sret (tb := tb) (s := s) (jd := jd) (g := g' - 3 - 8 - 1 - 3 - 200 - 3 - 100 - 3 - 6 - 3 - 3) (st := R) (nx := P + 15 + 1 + 1 + 1 + 0) (pc := P + 15 + 1 + 1) (mem := bys r 0) (T := setT T 1 9 1 r) (bt 18) (by omega) hss (bys_len0 r)
 rw [show g' - 3 - 8 - 1 - 3 - 200 - 3 - 100 - 3 - 6 - 3 - 3 = g' - 333 by omega] at s15 s16
 exact .step rfl s1 (.step rfl s2 (.step rfl s3 (.step rfl s4 (.step rfl s5 (.step rfl s6 (.step rfl s7 (.step rfl s8 (.step rfl s9 (.step rfl s10 (.step rfl s11 (.step rfl s12 (.step rfl s13 (.step rfl s14 (.step rfl s15 (.step rfl s16 (.done rfl))))))))))))))))
end
section
open Go.RowKit Go.Lib Go.Maps Go.WideMaps
theorem und_s : Tryz.prog.underlying 9 = some .string := by kernel_rfl
theorem und_i : Tryz.prog.underlying 3 = some (.int .i64) := by kernel_rfl
theorem und_m : Tryz.prog.underlying 118 = some (.map 9 3) := by kernel_rfl
theorem lawS : Keyed Tryz.prog 9 := string_keyed und_s
theorem zeroI (w : World) : (zeroValue 3).run Tryz.prog w = .ok (.int .i64 0) w := by kernel_rfl
def kS (t : ByteArray) : Lit := .string t.data.toList
theorem kS_inj {a b : ByteArray} (h : kS a = kS b) : a = b := bl_inj (by unfold kS at h; injection h)
theorem keyS (t : ByteArray) (h : t.size ≤ 2000) : keyOf Tryz.prog 9 (.string t) = some (kS t) := keyOf_string_mk und_s (by unfold maxLen; omega)
def MapL (x : World) (b n : Nat) (f : ByteArray → Option Nat) : Prop := ∃ D : DataW Unit, x.ownsMap Tryz.prog 9 (plainElem Tryz.prog 3) b n D ∧
 ∀ t : ByteArray, Maps.has D (kS t) = (f t).isSome ∧ D.atKey (kS t) (.lit (.int .i64 0)) = .lit (.int .i64 (((f t).getD 0 : Nat) : Int))
theorem MapL.made (w : World) : MapL (w.alloc (.map #[] 0)) w.heap.size 0 (fun _ => none) := ⟨.map [], World.ownsMap_made _ _ _ _, fun t => ⟨rfl, rfl⟩⟩
theorem MapL.below {x y : World} {b n : Nat} {f : ByteArray → Option Nat} (h : MapL x b n f) (hb : Below x.heap.size x y) : MapL y b n f := by
 obtain ⟨D, h1, h2⟩ := h
 have hlt := h1.lt
 obtain ⟨es, clock, hbk, F, hs, hD⟩ := h1
 exact ⟨D, ⟨es, clock, (hb.block b hlt).trans hbk, F, hs, hD⟩, h2⟩
theorem MapL.congr {x : World} {b n : Nat} {f g : ByteArray → Option Nat} (h : MapL x b n f) (e : ∀ t, f t = g t) : MapL x b n g := by
 obtain ⟨D, h1, h2⟩ := h
 exact ⟨D, h1, fun t => by rw [← e]; exact h2 t⟩
theorem MapL.mono {x : World} {b n m : Nat} {f : ByteArray → Option Nat} (h : MapL x b n f) (hn : n ≤ m) : MapL x b m f := by
 obtain ⟨D, h1, h2⟩ := h
 exact ⟨D, h1.mono hn, h2⟩
theorem MapL.look2 {x : World} {b n : Nat} {f : ByteArray → Option Nat} (h : MapL x b n f) (t : ByteArray) (ht : t.size ≤ 2000) :
  (Instr.lookup 118 (.map (some b)) (.string t) true).run Tryz.prog x = .ok (.tuple #[.int .i64 (((f t).getD 0 : Nat) : Int), .bool (f t).isSome]) x := by
 obtain ⟨D, h1, h2⟩ := h
 obtain ⟨v, ps, hrun, hv⟩ := h1.look_ok (t := 118) (e := 3) lawS und_m (zeroI _) (plainElem_int (q := .i64) und_i (by decide)) (keyS t ht)
 obtain ⟨c, rfl, hc, _⟩ := plainElem_int_inv (q := .i64) und_i hv
 rw [(h2 t).2] at hc
 have h5 := (Lit.int.inj (DataW.lit.inj (Prod.mk.inj hc).1)).2
 rw [← h5, (h2 t).1] at hrun
 exact hrun
theorem MapL.look1 {x : World} {b n : Nat} {f : ByteArray → Option Nat} (h : MapL x b n f) (t : ByteArray) (ht : t.size ≤ 2000) :
  (Instr.lookup 118 (.map (some b)) (.string t) false).run Tryz.prog x = .ok (.int .i64 (((f t).getD 0 : Nat) : Int)) x := by
 obtain ⟨D, h1, h2⟩ := h
 obtain ⟨c, hrun, hc, _⟩ := h1.lookup_int (t := 118) (e := 3) (q := .i64) lawS und_m und_i (zeroI _) (keyS t ht)
 rw [(h2 t).2] at hc
 have h5 := (Lit.int.inj (DataW.lit.inj hc)).2
 rw [← h5] at hrun
 exact hrun
theorem MapL.put {x : World} {b n : Nat} {f : ByteArray → Option Nat} {D : DataW Unit} (h1 : IsMap D) (h2 : ∀ t : ByteArray, Maps.has D (kS t) = (f t).isSome ∧ D.atKey (kS t) (.lit (.int .i64 0)) = .lit (.int .i64 (((f t).getD 0 : Nat) : Int)))
  (t : ByteArray) (p : Nat) (ho : x.ownsMap Tryz.prog 9 (plainElem Tryz.prog 3) b (n + 1) (D.put (kS t) (.lit (.int .i64 (p : Int))))) : MapL x b (n + 1) (fun u => if u = t then some p else f u) := by
 refine ⟨_, ho, fun u => ?_⟩
 show has _ (kS u) = (if u = t then some p else f u).isSome ∧ DataW.atKey _ (kS u) _ = .lit (.int .i64 (((if u = t then some p else f u).getD 0 : Nat) : Int))
 by_cases e : u = t
 ·subst e
  rw [if_pos rfl]
  exact ⟨has_put_same h1 (k := kS u) (show WideAt.IsKeyLit (kS u) from trivial) _, atKey_put_same h1 (k := kS u) (show WideAt.IsKeyLit (kS u) from trivial) _ _⟩
 ·have hne : kS u ≠ kS t := fun h => e (kS_inj h)
  rw [if_neg e, has_put_other hne, atKey_put_other hne]
  exact h2 u
theorem lkp_snoc (t : ByteArray) (l : List Ri) (y : Ri) : lkp t (l ++ [y]) = if (lkp t l).isSome then lkp t l else if y.i.k = 1 ∧ y.i.nm = t then some y.p else none := by
 induction l with
 | nil => rfl
 | cons x r ih =>
  show (if x.i.k = 1 ∧ x.i.nm = t then some x.p else lkp t (r ++ [y])) = _
  rw [lkp]
  by_cases h : x.i.k = 1 ∧ x.i.nm = t
  ·rw [if_pos h, if_pos h]; rfl
  ·rw [if_neg h, if_neg h, ih]
end
section
open Go.RowKit Go.Lib Go.Maps
def Okl (l : List (Ri × Value)) : Prop := l.length ≤ 2001 ∧ ∀ y ∈ l, y.1.i.nm.size ≤ 2000 ∧ y.1.p ≤ 100000 ∧ y.1.i.k ≤ 2 ∧ y.1.i.fl ≤ 4 ∧ y.1.i.cd.length ≤ 33 ∧ (y.1.i.k = 2 → y.1.i.cd = [97, 0, 0])
def lkT (l : List (Ri × Value)) (j : Nat) (t : ByteArray) : Option Nat := lkp t ((l.take j).map Prod.fst)
theorem lkT_step {l : List (Ri × Value)} {j : Nat} {y : Ri × Value} (hj : j < l.length) (hy : y = l[j]) (t : ByteArray) : lkT l (j + 1) t = if (lkT l j t).isSome then lkT l j t else if y.1.i.k = 1 ∧ y.1.i.nm = t then some y.1.p else none := by
 unfold lkT
 rw [List.take_succ_eq_append_getElem hj, List.map_append, ← hy]
 exact lkp_snoc t _ y.1
theorem lkT_no {l : List (Ri × Value)} {j : Nat} {y : Ri × Value} (hj : j < l.length) (hy : y = l[j]) (h : y.1.i.k ≠ 1) (t : ByteArray) : lkT l j t = lkT l (j + 1) t := by
 rw [lkT_step hj hy]
 rw [if_neg (fun e => h e.1 : ¬ (y.1.i.k = 1 ∧ y.1.i.nm = t))]
 cases lkT l j t <;> rfl
theorem lkT_there {l : List (Ri × Value)} {j : Nat} {y : Ri × Value} (hj : j < l.length) (hy : y = l[j]) (h : (lkT l j y.1.i.nm).isSome = true) (t : ByteArray) : lkT l j t = lkT l (j + 1) t := by
 rw [lkT_step hj hy]
 by_cases e : y.1.i.nm = t
 ·rw [← e, h]; rfl
 ·rw [if_neg (fun c => e c.2 : ¬ (y.1.i.k = 1 ∧ y.1.i.nm = t))]
  cases lkT l j t <;> rfl
theorem lkT_new {l : List (Ri × Value)} {j : Nat} {y : Ri × Value} (hj : j < l.length) (hy : y = l[j]) (hk : y.1.i.k = 1) (h : (lkT l j y.1.i.nm).isSome = false) (t : ByteArray) : (if t = y.1.i.nm then some y.1.p else lkT l j t) = lkT l (j + 1) t := by
 rw [lkT_step hj hy]
 by_cases e : t = y.1.i.nm
 ·rw [if_pos e, e, h, if_neg (by decide), if_pos ⟨hk, rfl⟩]
 ·rw [if_neg e, if_neg (fun c => e c.2.symm : ¬ (y.1.i.k = 1 ∧ y.1.i.nm = t))]
  cases lkT l j t <;> rfl
theorem item_cells {base g cap : Nat} {l : List (Ri × Value)} {x : World} (h : IR base l (.slice (some ⟨g, 0, none⟩) l.length cap) x) {j : Nat} (hj : j < l.length) {y : Ri × Value} (hy : y = l[j]) :
  x.cell? ⟨g, j * 6, none⟩ = some (.int .i64 (y.1.i.k : Int)) ∧ x.cell? ⟨g, j * 6 + 1, none⟩ = some (.string y.1.i.nm) ∧ x.cell? ⟨g, j * 6 + 2, none⟩ = some y.2 ∧ x.cell? ⟨g, j * 6 + 3, none⟩ = some (.int .i64 (y.1.i.fl : Int)) ∧ x.cell? ⟨g, j * 6 + 4, none⟩ = some (.int .i64 (y.1.a : Int)) ∧ x.cell? ⟨g, j * 6 + 5, none⟩ = some (.int .i64 (y.1.p : Int)) := by
 have hc := cells6_at l j hj
 rw [← hy] at hc
 exact ⟨(h.ow.cellAt (j * 6) (by omega)).trans hc.1, (h.ow.cellAt (j * 6 + 1) (by omega)).trans hc.2.1, (h.ow.cellAt (j * 6 + 2) (by omega)).trans hc.2.2.1, (h.ow.cellAt (j * 6 + 3) (by omega)).trans hc.2.2.2.1, (h.ow.cellAt (j * 6 + 4) (by omega)).trans hc.2.2.2.2.1, (h.ow.cellAt (j * 6 + 5) (by omega)).trans hc.2.2.2.2.2⟩
set_option maxRecDepth 100000 in
set_option maxHeartbeats 8000000 in
theorem labelPlaces_any (l : List (Ri × Value)) (base : Nat) (v : Value) (hl : Hid (Okl l)) (w : World) (ho : IR base l v w) : Calls Tryz.prog 52 #[v] w fun e w' => e = .returned (.map (some w.heap.size)) ∧ MapL w' w.heap.size l.length (fun t => lkp t (l.map Prod.fst)) ∧ Below w.heap.size w w' := by
 have hmm := @run_makeMap Tryz.prog
 have hll := hl.out.1
 have HE : Hid (∀ t, lkT l l.length t = lkp t (l.map Prod.fst)) := fun t => by unfold lkT; rw [List.take_length]
 rcases ho.ow.2 with ⟨rfl, hn⟩ | ⟨g, cap, cur, rfl, _⟩
 ·have HN : Hid (MapL (w.alloc (.map #[] 0)) w.heap.size l.length (fun t => lkp t (l.map Prod.fst))) := ((MapL.made w).mono (by omega)).congr fun t => by rw [List.length_eq_zero_iff.1 hn]; rfl
  have HBE := hid_of (bal (Below.refl _ w) (.map #[] 0))
  go_enter Tryz.func52, Tryz.ntmps52
  go_wp2
  go_loopw [11] (fun t11 wr => t11 = .int .i64 0 ∧ Hid (wr = w.alloc (.map #[] 0))) (fun _ _ => 0)
  case atStart => exact ⟨rfl, rfl⟩
  case round =>
   obtain ⟨rfl, HW⟩ := hrel
   go_wp2
   go_ret
   exact ⟨rfl, by rw [HW.out]; exact HN.out, by rw [HW.out]; exact HBE.out⟩
 ·have HO := hid_of ho
  clear ho
  go_enter Tryz.func52, Tryz.ntmps52
  go_wp2
  go_loopw [11] (fun t11 wr => ∃ j : Nat, t11 = .int .i64 (j : Int) ∧ j ≤ l.length ∧ MapL wr w.heap.size j (lkT l j) ∧ Below w.heap.size w wr) (fun t11 _ => l.length - (intOf t11).toNat)
  case atStart => exact ⟨0, rfl, by omega, MapL.made w, bal (Below.refl _ _) _⟩
  case round =>
   obtain ⟨j, rfl, hj, hml, hbe⟩ := hrel
   by_cases hlt : j < l.length
   ·obtain ⟨y, HY⟩ : ∃ y : Ri × Value, Hid (y = l[j]) := ⟨l[j], hid_of rfl⟩
    have hmem : y ∈ l := by rw [HY.out]; exact List.getElem_mem hlt
    have hir := HO.out.call hbe
    obtain ⟨c0, c1, c2, c3, c4, c5⟩ := item_cells hir hlt HY.out
    obtain ⟨ad, cp, hsh⟩ := own_sl (hir.cd y hmem)
    obtain ⟨o1, o2, o3, o4, o5, o6⟩ := hl.out.2 y hmem
    rw [hsh] at c2
    have HML := hid_of hml
    have HBE := hid_of hbe
    have HWF : Hid ((Lit.int .i64 (y.1.p : Int)).wf = true) := WalkArith.wf_i64 (by omega)
    generalize y.1.i.cd.length = cl at *
    by_cases hk : y.1.i.k = 1
    ·have hd : ((y.1.i.k : Int) != 1) = false := by rw [hk]; rfl
     have hlk := (hml.below (bal (Below.refl _ wr) (.cells #[.int .i64 (y.1.i.k : Int), .string y.1.i.nm, .slice ad cl cp, .int .i64 (y.1.i.fl : Int), .int .i64 (y.1.a : Int), .int .i64 (y.1.p : Int)] 122))).look2 y.1.i.nm o1
     cases hq : (lkT l j y.1.i.nm).isSome
     ·obtain ⟨D, hD1, hD2⟩ := hml.below (bal (Below.refl _ wr) (.cells #[.int .i64 (y.1.i.k : Int), .string y.1.i.nm, .slice ad cl cp, .int .i64 (y.1.i.fl : Int), .int .i64 (y.1.a : Int), .int .i64 (y.1.p : Int)] 122))
      have HD := hid_of (And.intro hD1 hD2)
      have HNEW := hid_of (lkT_new hlt HY.out hk hq)
      rw [hq] at hlk
      clear hD1 hD2 hml hbe hir hsh hq hk
      have hlt2 := HML.out
      go_wp2_with (first | (at_mapUpdate; refine wpList_mapUpdate_own _ rfl _ _ _ 118 rfl 9 3 lawS und_m _ w.heap.size j _ rfl HD.out.1 (by unfold maxLen; omega) _ _ _ rfl rfl (keyS y.1.i.nm o1) _ [] (plainElem_int und_i HWF.out) ?_; intro w4 ho4 hgr; have HO4 := hid_of ho4; have HGR := hid_of hgr; clear ho4 hgr))
      go_roundw
      case rel => exact ⟨j + 1, by go_num, by omega, (MapL.put HD.out.1.isMap HD.out.2 y.1.i.nm y.1.p HO4.out).congr HNEW.out, (bal HBE.out _).grown HGR.out (by have := HBE.out.size; simp; omega) (fun k hk => by cases hk; exact Nat.le_refl _)⟩
      case measure => simp [intOf]; omega
     ·have HTH := hid_of (lkT_there hlt HY.out hq)
      rw [hq] at hlk
      clear hml hbe hir hsh hq hk
      go_wp2
      go_roundw
      case rel => exact ⟨j + 1, by go_num, by omega, ((HML.out.below (bal (Below.refl _ _) _)).mono (by omega)).congr HTH.out, bal HBE.out _⟩
      case measure => simp [intOf]; omega
    ·have hd : ((y.1.i.k : Int) != 1) = true := by simp; omega
     have HNO := hid_of (lkT_no hlt HY.out hk)
     clear hml hbe hir hsh hk
     go_wp2
     go_roundw
     case rel => exact ⟨j + 1, by go_num, by omega, ((HML.out.below (bal (Below.refl _ _) _)).mono (by omega)).congr HNO.out, bal HBE.out _⟩
     case measure => simp [intOf]; omega
   ·have hje : j = l.length := by omega
    subst hje
    go_wp2
    go_ret
    exact ⟨rfl, hml.congr HE.out, hbe⟩
end
section
open Go.RowKit Go.Lib Go.Maps
set_option maxHeartbeats 8000000
set_option maxRecDepth 100000
def Oky (y : Ri) : Prop := y.i.nm.size ≤ 2000 ∧ y.p ≤ 100000 ∧ y.i.k ≤ 2 ∧ y.i.fl ≤ 4 ∧ y.i.cd.length ≤ 33 ∧ (y.i.k = 2 → y.i.cd = [97, 0, 0])
def itY (y : Ri) (v : Value) : Value := .agg #[.int .i64 (y.i.k : Int), .string y.i.nm, v, .int .i64 (y.i.fl : Int), .int .i64 (y.a : Int), .int .i64 (y.p : Int)]
theorem faultAmong_any (y : Ri) (ad : Option Addr) (cl cp : Nat) (f : ByteArray → Option Nat) (b n : Nat) (hy : Hid (Oky y)) (hs : Hid (y.i.k = 1 → (f y.i.nm).isSome = true)) (w : World) (hm : MapL w b n f) :
  Calls Tryz.prog 53 #[itY y (.slice ad cl cp), .map (some b)] w fun e w' => e = .returned (.int .i64 (flt f y : Int)) ∧ Below w.heap.size w w' := by
 obtain ⟨o1, o2, o3, o4, o5, o6⟩ := hy.out
 have hlk := (hm.below (bal (Below.refl _ w) (.cells #[.int .i64 (y.i.k : Int), .string y.i.nm, .slice ad cl cp, .int .i64 (y.i.fl : Int), .int .i64 (y.a : Int), .int .i64 (y.p : Int)] 122))).look2 y.i.nm o1
 have HBE := hid_of (bal (Below.refl _ w) (.cells #[.int .i64 (y.i.k : Int), .string y.i.nm, .slice ad cl cp, .int .i64 (y.i.fl : Int), .int .i64 (y.a : Int), .int .i64 (y.p : Int)] 122))
 unfold itY
 clear hm o6 o5
 by_cases h1 : y.i.fl = 0
 ·have d1 : ((y.i.fl : Int) != 0) = false := by rw [h1]; rfl
  by_cases h2 : y.i.k = 1
  ·obtain ⟨q, hq⟩ : ∃ q, f y.i.nm = some q := Option.isSome_iff_exists.1 (hs.out h2)
   rw [hq] at hlk
   by_cases h3 : q = y.p
   ·have HR : Hid (flt f y = 0) := by show _ = _; unfold flt; rw [if_neg (by omega), if_neg (by rw [hq, h3]; exact fun h => h.2 rfl), if_neg (by omega)]
    have d2 : ((y.i.k : Int) == 1) = true := by rw [h2]; rfl
    have d3 : ((q : Int) != (y.p : Int)) = false := by simp; omega
    have d4 : ((y.i.k : Int) == 2) = false := by simp; omega
    clear h1 h2 h3 hs hq
    go_enter Tryz.func53, Tryz.ntmps53
    go_wp2
    go_ret
    exact ⟨by rw [HR.out]; rfl, HBE.out⟩
   ·have HR : Hid (flt f y = 3) := by show _ = _; unfold flt; rw [if_neg (by omega), if_pos ⟨h2, by rw [hq]; exact fun e => h3 (Option.some.inj e)⟩]
    have d2 : ((y.i.k : Int) == 1) = true := by rw [h2]; rfl
    have d3 : ((q : Int) != (y.p : Int)) = true := by simp; omega
    clear h1 h2 h3 hs hq
    go_enter Tryz.func53, Tryz.ntmps53
    go_wp2
    go_ret
    exact ⟨by rw [HR.out]; rfl, HBE.out⟩
  ·have d2 : ((y.i.k : Int) == 1) = false := by simp; omega
   by_cases h4 : y.i.k = 2
   ·have d4 : ((y.i.k : Int) == 2) = true := by rw [h4]; rfl
    cases hq : f y.i.nm with
    | none =>
     have HR : Hid (flt f y = 3) := by show _ = _; unfold flt; rw [if_neg (by omega), if_neg (by omega), if_pos ⟨h4, hq⟩]
     rw [hq] at hlk
     clear h1 h2 h4 hs hq
     go_enter Tryz.func53, Tryz.ntmps53
     go_wp2
     go_ret
     exact ⟨by rw [HR.out]; rfl, HBE.out⟩
    | some q =>
     have HR : Hid (flt f y = 0) := by show _ = _; unfold flt; rw [if_neg (by omega), if_neg (by omega), if_neg (by rw [hq]; exact fun h => by cases h.2)]
     rw [hq] at hlk
     clear h1 h2 h4 hs hq
     go_enter Tryz.func53, Tryz.ntmps53
     go_wp2
     go_ret
     exact ⟨by rw [HR.out]; rfl, HBE.out⟩
   ·have d4 : ((y.i.k : Int) == 2) = false := by simp; omega
    have HR : Hid (flt f y = 0) := by show _ = _; unfold flt; rw [if_neg (by omega), if_neg (by omega), if_neg (by omega)]
    clear h1 h2 h4 hs
    go_enter Tryz.func53, Tryz.ntmps53
    go_wp2
    go_ret
    exact ⟨by rw [HR.out]; rfl, HBE.out⟩
 ·have d1 : ((y.i.fl : Int) != 0) = true := by simp; omega
  have HR : Hid (flt f y = y.i.fl) := by show _ = _; unfold flt; rw [if_pos h1]
  clear h1 hs
  go_enter Tryz.func53, Tryz.ntmps53
  go_wp2
  go_ret
  exact ⟨by rw [HR.out]; rfl, HBE.out⟩
theorem u8v_of {n : Nat} {z : Int} (h : z = ((n % 256 : Nat) : Int)) : u8v (UInt8.ofNat n) = .int .u8 z := by
 subst h
 unfold u8v
 rw [UInt8.toNat_ofNat']
theorem codeWith_any (y : Ri) (ad : Option Addr) (cl cp : Nat) (f : ByteArray → Option Nat) (b n base : Nat) (hy : Hid (Oky y)) (hf : Hid (∀ q, f y.i.nm = some q → q ≤ 100000)) (w : World) (hm : MapL w b n f) (hb : Bys w base (.slice ad cl cp) y.i.cd) (hba : base ≤ w.heap.size) :
  Calls Tryz.prog 54 #[itY y (.slice ad cl cp), .map (some b)] w fun e w' => ∃ v, e = .returned v ∧ Bys w' base v (cwt f y) ∧ Below w.heap.size w w' := by
 obtain ⟨o1, o2, o3, o4, o5, o6⟩ := hy.out
 have hlk := (hm.below (bal (Below.refl _ w) (.cells #[.int .i64 (y.i.k : Int), .string y.i.nm, .slice ad cl cp, .int .i64 (y.i.fl : Int), .int .i64 (y.a : Int), .int .i64 (y.p : Int)] 122))).look1 y.i.nm o1
 have HBE := hid_of (bal (Below.refl _ w) (.cells #[.int .i64 (y.i.k : Int), .string y.i.nm, .slice ad cl cp, .int .i64 (y.i.fl : Int), .int .i64 (y.a : Int), .int .i64 (y.p : Int)] 122))
 have HBY := hid_of (hb.alloc (.cells #[.int .i64 (y.i.k : Int), .string y.i.nm, .slice ad cl cp, .int .i64 (y.i.fl : Int), .int .i64 (y.a : Int), .int .i64 (y.p : Int)] 122))
 unfold itY
 by_cases h2 : y.i.k = 2
 ·have hcd := o6 h2
  have d : ((y.i.k : Int) != 2) = false := by rw [h2]; rfl
  obtain ⟨q, HQ⟩ : ∃ q, Hid (q = (f y.i.nm).getD 0) := ⟨_, rfl⟩
  have hq : q ≤ 100000 := by
   rw [HQ.out]
   cases h : f y.i.nm with
   | none => show 0 ≤ _; omega
   | some r => exact hf.out r h
  have HR : Hid (cwt f y = [97, UInt8.ofNat (q / 256), UInt8.ofNat (q % 256)]) := by show _ = _; unfold cwt; rw [if_pos h2, ← HQ.out]
  rw [← HQ.out] at hlk
  rw [hcd] at HBY
  obtain ⟨g, cap, e1, e2, e3, e4⟩ := own_shape HBY.out (by decide)
  injection e1 with e5 e6 e7
  subst e5 e7
  obtain rfl : cl = 3 := e6
  have hc := World.ownsRow.cellAt HBY.out 0 (by decide)
  have hc1 : _ = some (Value.int .u8 97) := hc
  clear hc h2 hcd hm hb o6 HQ hf HBY
  go_enter Tryz.func54, Tryz.ntmps54
  go_wp2
  go_ret
  refine ⟨_, rfl, ?_, bal HBE.out _⟩
  rw [HR.out]
  have h := bys_lit (w.alloc (.cells #[.int .i64 (y.i.k : Int), .string y.i.nm, .slice (some ⟨g, 0, none⟩) 3 cp, .int .i64 (y.i.fl : Int), .int .i64 (y.a : Int), .int .i64 (y.p : Int)] 122)) base (by simp; omega) [97, UInt8.ofNat (q / 256), UInt8.ofNat (q % 256)] (by show 3 ≤ 40; omega)
  have x1 : u8v (UInt8.ofNat (q / 256)) = .int .u8 ((q : Int) / 256 % 256) := u8v_of (by omega)
  have x2 : u8v (UInt8.ofNat (q % 256)) = .int .u8 ((q : Int) % 256) := u8v_of (by omega)
  simp only [List.map_cons, List.map_nil] at h
  rw [x1, x2, show u8v 97 = .int .u8 97 from rfl] at h
  simpa using h
 ·have d : ((y.i.k : Int) != 2) = true := by simp; omega
  have HR : Hid (cwt f y = y.i.cd) := by show _ = _; unfold cwt; rw [if_neg h2]
  clear h2 hm hb o6
  go_enter Tryz.func54, Tryz.ntmps54
  go_wp2
  go_ret
  exact ⟨_, rfl, by rw [HR.out]; exact HBY.out, HBE.out⟩
end
section
open Go.RowKit
theorem cutS_le (s p : ByteArray) : (cutS s p).size ≤ s.size := by
 unfold cutS
 split
 ·rw [ByteArray.size_extract]; omega
 ·exact Nat.le_refl _
theorem cutP_le (s p : ByteArray) : (cutP s p).size ≤ s.size := by
 unfold cutP
 split
 ·rw [ByteArray.size_extract]; omega
 ·exact Nat.le_refl _
theorem itN_ok (t : ByteArray) : (itN t).nm.size = 0 ∧ (itN t).k = 0 ∧ (itN t).fl ≤ 4 ∧ ((itN t).fl = 0 → (itN t).cd ≠ []) := by
 unfold itN
 split
 ·exact ⟨rfl, rfl, by show 0 ≤ 4; omega, fun _ h => by cases h⟩
 ·split
  ·exact ⟨rfl, rfl, by show 2 ≤ 4; omega, fun h => by cases h⟩
  ·split
   ·exact ⟨rfl, rfl, by show 4 ≤ 4; omega, fun h => by cases h⟩
   ·exact ⟨rfl, rfl, by show 0 ≤ 4; omega, fun _ h => by unfold pcode pcs at h; cases h⟩
theorem itm_ok (t : ByteArray) (ht : t.size ≤ 2000) : (itm t).nm.size ≤ 2000 ∧ (itm t).k ≤ 2 ∧ (itm t).fl ≤ 4 ∧ ((itm t).k = 2 → (itm t).cd = [97, 0, 0]) ∧ ((itm t).fl = 0 → (itm t).cd ≠ []) := by
 have h1 := cutS_le t col
 have h2 := cutP_le t att
 unfold itm
 split
 ·exact ⟨by show (cutS t col).size ≤ _; omega, by show 1 ≤ 2; omega, by show 0 ≤ 4; omega, fun h => (by cases h), fun _ h => (by cases h)⟩
 ·split
  ·exact ⟨by show (cutP t att).size ≤ _; omega, by show 2 ≤ 2; omega, by show 0 ≤ 4; omega, fun h => rfl, fun _ h => (by cases h)⟩
  ·obtain ⟨a, b, c, d⟩ := itN_ok t
   exact ⟨by omega, by omega, c, fun h => by omega, d⟩
theorem rit_mem {y : Ri} : ∀ (L : List (ByteArray × Nat)) (p : Nat), y ∈ rit L p → ∃ x ∈ L, y.i = itm x.1 ∧ y.a = x.2 ∧ y.p ≤ p + 33 * L.length
 | [], p, h => by cases h
 | x :: r, p, h => by
  have hl := itm_len x.1
  rcases List.mem_cons.1 h with rfl | h
  ·exact ⟨x, List.mem_cons_self, rfl, rfl, by show p ≤ _; omega⟩
  ·obtain ⟨z, hz, h1, h2, h3⟩ := rit_mem r _ h
   exact ⟨z, List.mem_cons_of_mem _ hz, h1, h2, by rw [List.length_cons]; omega⟩
theorem lkp_some {t : ByteArray} {q : Nat} : ∀ {l : List Ri}, lkp t l = some q → ∃ y ∈ l, y.p = q
 | [], h => by cases h
 | y :: r, h => by
  rw [lkp] at h
  split at h
  ·exact ⟨y, List.mem_cons_self, Option.some.inj h⟩
  ·obtain ⟨z, hz, h2⟩ := lkp_some h
   exact ⟨z, List.mem_cons_of_mem _ hz, h2⟩
theorem lkp_label {y : Ri} : ∀ {l : List Ri}, y ∈ l → y.i.k = 1 → (lkp y.i.nm l).isSome = true
 | [], h, _ => by cases h
 | z :: r, h, hk => by
  rw [lkp]
  split
  ·rfl
  ·rename_i hn
   rcases List.mem_cons.1 h with rfl | h
   ·exact absurd ⟨hk, rfl⟩ hn
   ·exact lkp_label h hk
theorem rl_ok {s : ByteArray} (hs : s.size ≤ 2000) (hv : Whole s) {y : Ri} (hy : y ∈ rlist s) : Oky y ∧ (y.i.fl = 0 → y.i.cd ≠ []) ∧ y.a ≤ 2000 := by
 obtain ⟨x, hx, h1, h2, h3⟩ := rit_mem (spl s) 0 hy
 obtain ⟨f1, f2, f3, f4⟩ := spl_fit hv x hx
 have hl := spl_len s
 obtain ⟨a, b, c, d, e⟩ := itm_ok x.1 (Nat.le_trans f3 hs)
 have g := itm_len x.1
 rw [← h1] at a b c d e g
 exact ⟨⟨a, by omega, b, c, g, d⟩, e, by omega⟩
theorem okl_of {s : ByteArray} (hs : s.size ≤ 2000) (hv : Whole s) {l : List (Ri × Value)} (h : l.map Prod.fst = rlist s) : Okl l := by
 refine ⟨?_, fun y hy => ?_⟩
 ·have h2 := congrArg List.length h
  rw [List.length_map] at h2
  have h3 := rit_len (spl s) 0
  have h4 := spl_len s
  unfold rlist at h2
  omega
 ·have h2 : y.1 ∈ rlist s := by rw [← h]; exact List.mem_map_of_mem hy
  exact (rl_ok hs hv h2).1
theorem labs_le {s : ByteArray} (hs : s.size ≤ 2000) (hv : Whole s) (t : ByteArray) (q : Nat) (h : labs s t = some q) : q ≤ 100000 := by
 obtain ⟨y, hy, rfl⟩ := lkp_some h
 exact (rl_ok hs hv hy).1.2.1
theorem cwt_len {f : ByteArray → Option Nat} {y : Ri} (h : Oky y) : (cwt f y).length = y.i.cd.length := by
 unfold cwt
 split
 ·rename_i hk; rw [h.2.2.2.2.2 hk]; rfl
 ·rfl
theorem rn2_step {f : ByteArray → Option Nat} {l : List Ri} {j : Nat} {c : List UInt8} {R : List UInt8 ⊕ (Nat × Nat)} {y : Ri} (hj : j < l.length) (hy : y = l[j]) (hf : flt f y = 0) (h : rn2 f (l.drop j) c = R) : rn2 f (l.drop (j + 1)) (c ++ cwt f y) = R := by
 rw [List.drop_eq_getElem_cons hj, ← hy, rn2, if_pos hf] at h
 exact h
theorem rn2_bad {f : ByteArray → Option Nat} {l : List Ri} {j : Nat} {c : List UInt8} {R : List UInt8 ⊕ (Nat × Nat)} {y : Ri} (hj : j < l.length) (hy : y = l[j]) (hf : flt f y ≠ 0) (h : rn2 f (l.drop j) c = R) : R = .inr (flt f y, y.a) := by
 rw [List.drop_eq_getElem_cons hj, ← hy, rn2, if_neg hf] at h
 exact h.symm
theorem asm_long {s : ByteArray} (h : 2000 < s.size) : asm s = (⟨#[]⟩, 2, 0) := by unfold asm; rw [if_pos h]
theorem asm_torn {s : ByteArray} (h : s.size ≤ 2000) (hc : (cnt s).2 = false) : asm s = (⟨#[]⟩, 2, (cnt s).1) := by unfold asm; rw [if_neg (by omega), if_pos hc]
theorem asm_fault {s : ByteArray} (h : s.size ≤ 2000) (hc : (cnt s).2 = true) {e a : Nat} (hr : rn2 (labs s) (rlist s) [] = .inr (e, a)) : asm s = (⟨#[]⟩, e, a) := by unfold asm; rw [if_neg (by omega), if_neg (by rw [hc]; decide), hr]
theorem asm_big {s : ByteArray} (h : s.size ≤ 2000) (hc : (cnt s).2 = true) {c : List UInt8} (hr : rn2 (labs s) (rlist s) [] = .inl c) (hb : 1000 < c.length) : asm s = (⟨#[]⟩, 4, (cnt s).1) := by unfold asm; rw [if_neg (by omega), if_neg (by rw [hc]; decide), hr]; exact if_pos hb
theorem asm_code {s : ByteArray} (h : s.size ≤ 2000) (hc : (cnt s).2 = true) {c : List UInt8} (hr : rn2 (labs s) (rlist s) [] = .inl c) (hb : ¬ 1000 < c.length) : asm s = (⟨c.toArray⟩, 0, 0) := by unfold asm; rw [if_neg (by omega), if_neg (by rw [hc]; decide), hr]; exact if_neg hb
theorem cntF_le (s : ByteArray) : ∀ (f p k : Nat), p ≤ s.size → k ≤ p → (cntF s f p k).1 ≤ k + f
 | 0, p, k, _, _ => by rw [cntF]; exact Nat.le_refl _
 | f + 1, p, k, hp, hk => by
  rw [cntF]
  split
  ·split
   ·show k ≤ _; omega
   ·rename_i h1 h2
    have := cntF_le s f (p + nx s p) (k + 1) (nx_le s p h1 h2) (by have := Nat.pos_of_ne_zero h2; omega)
    omega
  ·show k ≤ _; omega
theorem cnt_le (s : ByteArray) : (cnt s).1 ≤ s.size := by have := cntF_le s s.size 0 0 (by omega) (by omega); unfold cnt; omega
end
section
open Go.RowKit
theorem bl_arr_mk (l : List UInt8) : bl ⟨l.toArray⟩ = l := rfl
theorem size_of_bl {s : ByteArray} {l : List UInt8} (h : bl s = l) : s.size = l.length := by rw [← h]; rfl
theorem byt_shift {s t : ByteArray} {pre : List UInt8} (h : bl s = pre ++ bl t) (p : Nat) : byt s (pre.length + p) = byt t p := by
 rw [byt_bl, byt_bl, h, List.getD_eq_getElem?_getD, List.getD_eq_getElem?_getD, List.getElem?_append_right (by omega), Nat.add_sub_cancel_left]
theorem wid_shift (a z i b0 b1 b2 b3 : Nat) : wid (a + z) (a + i) b0 b1 b2 b3 = wid z i b0 b1 b2 b3 := by
 have e1 : (a + i + 1 < a + z) = (i + 1 < z) := by apply propext; omega
 have e2 : (a + i + 2 < a + z) = (i + 2 < z) := by apply propext; omega
 have e3 : (a + i + 3 < a + z) = (i + 3 < z) := by apply propext; omega
 unfold wid dec
 simp only [e1, e2, e3]
theorem nx_shift {s t : ByteArray} {pre : List UInt8} (h : bl s = pre ++ bl t) (p : Nat) : nx s (pre.length + p) = nx t p := by
 have hz : s.size = pre.length + t.size := by rw [size_of_bl h, List.length_append]; rfl
 rw [nx_wid, nx_wid, hz, byt_shift h p, show pre.length + p + 1 = pre.length + (p + 1) by omega, show pre.length + p + 2 = pre.length + (p + 2) by omega, show pre.length + p + 3 = pre.length + (p + 3) by omega, byt_shift h (p + 1), byt_shift h (p + 2), byt_shift h (p + 3), wid_shift]
theorem ext_shift {s t : ByteArray} {pre : List UInt8} (h : bl s = pre ++ bl t) (b p : Nat) : s.extract (pre.length + b) (pre.length + p) = t.extract b p := by
 apply bl_inj
 rw [bl_sub, bl_sub, h, List.drop_append, List.drop_of_length_le (by omega), List.nil_append, show pre.length + b - pre.length = b by omega, show pre.length + p - (pre.length + b) = p - b by omega]
theorem splF_shift {s t : ByteArray} {pre : List UInt8} (h : bl s = pre ++ bl t) (k0 : Nat) : ∀ (f p k : Nat) (rm : Bool) (cur : Option (Nat × Nat)),
  splF s f (pre.length + p) (k0 + k) rm (cur.map fun x => (pre.length + x.1, k0 + x.2)) = (splF t f p k rm cur).map fun x => (x.1, k0 + x.2) := by
 have hz : s.size = pre.length + t.size := by rw [size_of_bl h, List.length_append]; rfl
 have hfin : ∀ p (cur : Option (Nat × Nat)), fin s (pre.length + p) (cur.map fun x => (pre.length + x.1, k0 + x.2)) = (fin t p cur).map fun x => (x.1, k0 + x.2) := fun p cur => by
  cases cur with
  | none => rfl
  | some x => show [(s.extract (pre.length + x.1) (pre.length + p), k0 + x.2)] = _; rw [ext_shift h]; rfl
 intro f
 induction f with
 | zero => intro p k rm cur; exact hfin p cur
 | succ f ih =>
  intro p k rm cur
  rw [splF, splF, byt_shift h, nx_shift h, hz]
  by_cases hlt : p < t.size
  ·rw [if_pos (by omega), if_pos hlt]
   by_cases hs : (rm || sepB (byt t p)) = true
   ·rw [if_pos hs, if_pos hs, List.map_append, hfin, show pre.length + p + nx t p = pre.length + (p + nx t p) by omega, show k0 + k + 1 = k0 + (k + 1) by omega]
    congr 1
    exact ih (p + nx t p) (k + 1) _ none
   ·rw [if_neg hs, if_neg hs, show pre.length + p + nx t p = pre.length + (p + nx t p) by omega, show k0 + k + 1 = k0 + (k + 1) by omega, ← ih]
    congr 1
    cases cur <;> rfl
  ·rw [if_neg (by omega), if_neg hlt, hfin]
theorem cntF_shift {s t : ByteArray} {pre : List UInt8} (h : bl s = pre ++ bl t) (k0 : Nat) : ∀ (f p k : Nat), cntF s f (pre.length + p) (k0 + k) = (k0 + (cntF t f p k).1, (cntF t f p k).2) := by
 have hz : s.size = pre.length + t.size := by rw [size_of_bl h, List.length_append]; rfl
 intro f
 induction f with
 | zero => intro p k; rfl
 | succ f ih =>
  intro p k
  rw [cntF, cntF, nx_shift h, hz]
  by_cases hlt : p < t.size
  ·rw [if_pos (by omega), if_pos hlt]
   by_cases hn : nx t p = 0
   ·rw [if_pos hn, if_pos hn]
   ·rw [if_neg hn, if_neg hn, show pre.length + p + nx t p = pre.length + (p + nx t p) by omega, show k0 + k + 1 = k0 + (k + 1) by omega, ih]
  ·rw [if_neg (by omega), if_neg hlt]
def Plain (l : List UInt8) : Prop := ∀ b ∈ l, b.toNat < 128 ∧ sepB b.toNat = false
theorem byt_mid {s : ByteArray} {pre suf : List UInt8} {b : UInt8} (h : bl s = pre ++ (b :: suf)) : byt s pre.length = b.toNat := by
 rw [byt_bl, h, List.getD_eq_getElem?_getD, List.getElem?_append_right (by omega), Nat.sub_self]
 rfl
theorem splF_run {s : ByteArray} : ∀ (l pre suf : List UInt8), bl s = pre ++ (l ++ suf) → Plain l → ∀ (f k : Nat) (cur : Option (Nat × Nat)),
  splF s (f + l.length) pre.length k false cur = splF s f (pre.length + l.length) (k + l.length) false (if l = [] then cur else some (cur.getD (pre.length, k)))
 | [], pre, suf, h, hp, f, k, cur => by simp
 | b :: l, pre, suf, h, hp, f, k, cur => by
  have hb := byt_mid (s := s) (pre := pre) (b := b) (suf := l ++ suf) h
  obtain ⟨h1, h2⟩ := hp b List.mem_cons_self
  have hsz : pre.length < s.size := by rw [size_of_bl h, List.length_append, List.cons_append, List.length_cons]; omega
  have hrm : rmk false b.toNat = false := by
   unfold sepB at h2
   unfold rmk
   rw [decide_eq_false_iff_not] at h2
   rw [Bool.false_and, Bool.or_false, decide_eq_false_iff_not]
   exact fun e => h2 (Or.inr (Or.inr (Or.inr e)))
  have ih := splF_run (s := s) l (pre ++ [b]) suf (by rw [h]; simp) (fun x hx => hp x (List.mem_cons_of_mem _ hx)) f (k + 1) (some (cur.getD (pre.length, k)))
  rw [List.length_cons, ← Nat.add_assoc, splF, if_pos hsz, hb, h2, Bool.or_false, if_neg (by decide), hrm, nx_ascii s _ (by rw [hb]; exact h1)]
  rw [List.length_append, List.length_singleton] at ih
  rw [ih, if_neg (List.cons_ne_nil b l), show pre.length + 1 + l.length = pre.length + (l.length + 1) by omega, show k + 1 + l.length = k + (l.length + 1) by omega]
  congr 1
  by_cases e : l = []
  ·rw [if_pos e]
  ·rw [if_neg e]; rfl
theorem splF_sep {s : ByteArray} {pre suf : List UInt8} {b : UInt8} (h : bl s = pre ++ (b :: suf)) (hs : sepB b.toNat = true) (h1 : b.toNat < 128) (hn : b.toNat ≠ 59) (f k : Nat) (cur : Option (Nat × Nat)) :
  splF s (f + 1) pre.length k false cur = fin s pre.length cur ++ splF s f (pre.length + 1) (k + 1) false none := by
 have hb := byt_mid (s := s) (pre := pre) (b := b) (suf := suf) h
 have hsz : pre.length < s.size := by rw [size_of_bl h, List.length_append, List.length_cons]; omega
 have hrm : rmk false b.toNat = false := by unfold rmk; rw [Bool.false_and, Bool.or_false]; exact decide_eq_false hn
 rw [splF, if_pos hsz, hb, hs, Bool.or_true, if_pos rfl, hrm, nx_ascii s _ (by rw [hb]; exact h1)]
theorem splF_item {s : ByteArray} {l pre suf : List UInt8} {b : UInt8} (h : bl s = pre ++ (l ++ b :: suf)) (hl : l ≠ []) (hp : Plain l) (hs : sepB b.toNat = true) (h1 : b.toNat < 128) (hn : b.toNat ≠ 59) (f k : Nat) :
  splF s (f + (l.length + 1)) pre.length k false none = (⟨l.toArray⟩, k) :: splF s f (pre.length + (l.length + 1)) (k + (l.length + 1)) false none := by
 have e := splF_run (s := s) l pre (b :: suf) h hp (f + 1) k none
 have h' : bl s = (pre ++ l) ++ (b :: suf) := by rw [h, List.append_assoc]
 have e2 := splF_sep (s := s) h' hs h1 hn f (k + l.length) (some (pre.length, k))
 rw [List.length_append] at e2
 rw [show f + (l.length + 1) = f + 1 + l.length by omega, e, if_neg hl]
 show splF s (f + 1) (pre.length + l.length) (k + l.length) false (some (pre.length, k)) = _
 rw [e2]
 have hx : s.extract pre.length (pre.length + l.length) = ⟨l.toArray⟩ := by
  apply bl_inj
  rw [bl_sub, h, List.drop_append, List.drop_of_length_le (by omega), Nat.sub_self, List.nil_append, List.drop_zero, Nat.add_sub_cancel_left, List.take_append_of_le_length (by omega), List.take_of_length_le (by omega)]
  rfl
 show (s.extract pre.length (pre.length + l.length), k) :: _ = _
 rw [hx]
 rfl
theorem cntF_run {s : ByteArray} : ∀ (l pre suf : List UInt8), bl s = pre ++ (l ++ suf) → (∀ b ∈ l, b.toNat < 128) → ∀ (f k : Nat),
  cntF s (f + l.length) pre.length k = cntF s f (pre.length + l.length) (k + l.length)
 | [], pre, suf, h, hp, f, k => by simp
 | b :: l, pre, suf, h, hp, f, k => by
  have hb := byt_mid (s := s) (pre := pre) (b := b) (suf := l ++ suf) h
  have h1 := hp b List.mem_cons_self
  have hsz : pre.length < s.size := by rw [size_of_bl h, List.length_append, List.cons_append, List.length_cons]; omega
  have ih := cntF_run (s := s) l (pre ++ [b]) suf (by rw [h]; simp) (fun x hx => hp x (List.mem_cons_of_mem _ hx)) f (k + 1)
  have hnx := nx_ascii s pre.length (by rw [hb]; exact h1)
  rw [List.length_cons, ← Nat.add_assoc, cntF, if_pos hsz, hnx, if_neg (by omega)]
  rw [List.length_append, List.length_singleton] at ih
  rw [ih, show pre.length + 1 + l.length = pre.length + (l.length + 1) by omega, show k + 1 + l.length = k + (l.length + 1) by omega]
end
section
open Go.RowKit
set_option maxRecDepth 100000 in
set_option maxHeartbeats 2000000 in
theorem kbytesOf_any (n : Nat) (w : World) : Calls Tryz.prog 15 #[wv n] w fun e w' => e = .returned (.string ⟨(bys n 0).toArray⟩) ∧ Below w.heap.size w w' := by
 have hmk : ∀ w, (Instr.makeSlice 26 (.int .i64 32) (.int .i64 32)).run Tryz.prog w = .ok (.slice (some ⟨w.heap.size, 0, none⟩) 32 32) (w.alloc (.cells (madeCells #[.int .u8 0] 32) 5)) := fun w => make_bytes 32 (by omega) w
 go_enter Tryz.func15, Tryz.ntmps15
 go_wp2
 go_loopw [4] (fun t4 wr => ∃ i : Nat, i ≤ 32 ∧ t4 = .int .i64 i ∧ wr.rowIs w.heap.size 24 4 (u64s (limb n)) ∧
   wr.rowIs (w.heap.size + 1) 5 32 (u8s fun j => if 32 ≤ j + i then byn n (31 - j) else 0) ∧ Below w.heap.size w wr)
   (fun t4 _ => 32 - (intOf t4).toNat)
 case atStart =>
  refine ⟨0, by omega, rfl, (row_lit4 (limb n) rfl rfl rfl rfl rfl).alloc _, row8_made (by simp) (fun j hj => if_neg (by omega)), bal (bal (Below.refl _ _) _) _⟩
 case round =>
  obtain ⟨i, hi, rfl, hrw, hra, hbel⟩ := hrel
  by_cases hlt : i < 32
  ·have d : decide ((i : Int) < 32) = true := decide_eq_true (by omega)
   obtain ⟨u, hu⟩ : ∃ u : Nat, (31 : Int) - (i : Int) = (u : Int) := ⟨31 - i, by omega⟩
   have hu32 : u < 32 := by omega
   have cw := hrw.cell (i := i / 8) (by omega)
   have ca := hra.cell hu32
   have fa := hra.frozen u
   have hby := byn_lb n (i / 8) (i % 8) (by omega)
   rw [show 8 * (i / 8) + i % 8 = i by omega] at hby
   simp only [u64s, limb_lb] at cw
   simp only [u8s] at ca
   go_wp2
   have hby2 : (lb n (i / 8) : Int) / 2 ^ (8 * (i % 8)) % 256 = (byn n i : Int) := by rw [← hby]; simp
   refine ⟨⟨i + 1, by omega, by go_num, hrw.setOther (by simp) _, (hra.set u _).congr fun j hj => ?_, hbel.setCell (by simp) _⟩, by simp [intOf]; omega⟩
   show (if j = u then _ else _) = _
   simp only [u8s]
   by_cases h : j = u
   ·rw [if_pos h, if_pos (by omega), hby2, show 31 - j = i by omega]
   ·rw [if_neg h]
    by_cases h2 : 32 ≤ j + i
    ·rw [if_pos h2, if_pos (by omega)]
    ·rw [if_neg h2, if_neg (by omega)]
  ·obtain rfl : i = 32 := by omega
   have d : decide (((32 : Nat) : Int) < 32) = false := by decide
   have hlen : (bys n 0).length = 32 := by simp [bys]
   have hrd : Rds wr (.slice (some ⟨w.heap.size + 1, 0, none⟩) 32 32) (bys n 0) := by
    refine ⟨some ⟨w.heap.size + 1, 0, none⟩, 32, by rw [hlen], by rw [hlen]; exact Nat.le_refl _, fun _ => ⟨w.heap.size + 1, 0, rfl, hra.lt, fun j hj => ?_⟩⟩
    rw [hlen] at hj
    rw [Nat.zero_add, hra.cell hj]
    simp only [u8s, u8v]
    rw [if_pos (by omega)]
    simp only [bys, List.getElem_map, List.getElem_range]
    rw [ofNat_byn]
   have hcv := hrd.str
   have HB := hid_of hbel
   obtain ⟨L, HL⟩ : ∃ L, Hid (L = bys n 0) := ⟨_, rfl⟩
   rw [← HL.out] at hcv
   clear hrd hra hrw hbel hmk
   go_wp2
   go_ret
   exact ⟨by rw [← HL.out]; rfl, HB.out⟩
end
section
open Go.RowKit
set_option maxRecDepth 100000
def decF : Nat → Nat → ByteArray
 | 0, k => ⟨#[UInt8.ofNat (48 + k)]⟩
 | f + 1, k => if k < 10 then ⟨#[UInt8.ofNat (48 + k)]⟩ else decF f (k / 10) ++ ⟨#[UInt8.ofNat (48 + k % 10)]⟩
theorem decF_size : ∀ f k, (decF f k).size ≤ f + 1
 | 0, k => Nat.le_refl 1
 | f + 1, k => by
  unfold decF
  split
  ·show 1 ≤ _; omega
  ·rw [ByteArray.size_append]
   have := decF_size f (k / 10)
   show _ + 1 ≤ _
   omega
theorem decF_small (f k : Nat) (h : k < 10) : decF f k = ⟨#[UInt8.ofNat (48 + k)]⟩ := by
 cases f with
 | zero => rfl
 | succ f => exact if_pos h
theorem own_kdecimal : Own 27 := fun _ _ => by kernel_rfl
section
set_option maxRecDepth 100000
variable {s : Act} {x : World} {pos : String} {af : Array Edge} {g : Option (Nat × Bool)} {K : Act → World → Prop} {Q : Exit → Act → World → Prop}
theorem st_quo10b (t d k : Nat) (hk : k ≤ 10000000) (he : s.tmps.getD t undef = .int .i64 (k : Int)) (hK : K (s.put (some d) (.int .i64 ((k / 10 : Nat) : Int))) x) {ty : TypeId} :
  Oper.wp Tryz.prog ⟨some d, .binOp .quo 3 (.tmp t) (.const (.int .i64 10)) 3, ty, pos, af, g⟩ s x K Q := by
 have he2 : s.eval (.tmp t) = .int .i64 (k : Int) := he
 rw [Int.natCast_ediv] at hK
 have hw : IntKind.i64.wrap ((k : Int) / 10) = (k : Int) / 10 := by rw [IntKind.wrap_i64]; omega
 go_simp
 exact hK
end
set_option maxHeartbeats 2000000 in
theorem kdec_step (f k : Nat) (hf : f ≤ 20) (h1 : 10 ≤ k) (h2 : k ≤ 10000000) (w : World) (hIH : ∀ w, Calls Tryz.prog 27 #[.int .i64 ((k / 10 : Nat) : Int)] w fun e w' => e = .returned (.string (decF f (k / 10))) ∧ Below w.heap.size w w') : Calls Tryz.prog 27 #[.int .i64 (k : Int)] w fun e w' => e = .returned (.string (decF (f + 1) k)) ∧ Below w.heap.size w w' := by
 obtain ⟨a, HA⟩ : ∃ a, Hid (a = decF f (k / 10)) := ⟨_, rfl⟩
 obtain ⟨c, HC⟩ : ∃ c : Int, Hid (c = 48 + ((k % 10 : Nat) : Int)) := ⟨_, rfl⟩
 obtain ⟨b, HB⟩ : ∃ b : ByteArray, Hid (b = ⟨#[UInt8.ofNat c.toNat]⟩) := ⟨_, rfl⟩
 have HR : Hid (decF (f + 1) k = a ++ b) := by
  show _ = _
  rw [HA.out, HB.out, HC.out]
  exact (if_neg (by omega)).trans (by congr 3)
 have HDC : Hid (∀ w, Calls Tryz.prog 27 #[.int .i64 ((k / 10 : Nat) : Int)] w fun e w' => e = .returned (.string a) ∧ Below w.heap.size w w') := fun w => by rw [HA.out]; exact hIH w
 have hz : a.size ≤ 2000 := by rw [HA.out]; exact Nat.le_trans (decF_size f (k / 10)) (by omega)
 have hz2 : b.size ≤ 2000 := by rw [HB.out]; show 1 ≤ 2000; omega
 have HZ : Hid (a.size ≤ 2000 ∧ b.size ≤ 2000) := ⟨hz, hz2⟩
 have d0 : decide ((k : Int) < 0) = false := decide_eq_false (by omega)
 have d9 : decide ((9 : Int) < (k : Int)) = true := decide_eq_true (by omega)
 clear hz hz2 hIH
 go_enter Tryz.func27, Tryz.ntmps27
 go_wp2
 refine wp_region_pred (by kernel_rfl) (fun x => Below w.heap.size w x) (fun _ x x' => Below x.heap.size x x') [(some 11, fun v _ => v = .int .i64 (k : Int)), (some 12, fun v _ => v = .int .i64 ((k / 10 : Nat) : Int)), (some 13, fun v _ => v = .string a), (some 14, fun v _ => v = .int .i64 (k : Int)), (some 15, fun v _ => v = .int .i64 ((k % 10 : Nat) : Int)), (some 16, fun v _ => v = .int .i64 (48 + ((k % 10 : Nat) : Int))), (some 17, fun v _ => v = .int .u8 c), (some 18, fun v x => One c v x), (some 19, fun v _ => v = .string b), (some 20, fun v _ => v = .string (a ++ b)), (some 2, fun v _ => v = .string (a ++ b))] (by kernel_rfl) rfl (by kernel_rfl) (by kernel_rfl) (Below.refl _ w).drew [(0, .int .i64 (k : Int))] (by intro p hp; simp only [List.mem_cons, List.not_mem_nil, or_false] at hp; rcases hp with rfl <;> rfl) (by kernel_rfl) ?_ ?_ ?_
 ·as_aux_lemma =>
  intro i j d T h hij v x x' hs hr ht
  have hj : j < 11 := (List.getElem?_eq_some_iff.1 h).1
  rcases p11 hj with rfl | rfl | rfl | rfl | rfl | rfl | rfl | rfl | rfl | rfl | rfl <;> obtain ⟨rfl, rfl⟩ := pk h <;> (first | exact ht | exact ht.below hr)
 ·as_aux_lemma =>
  intro i o d T ho ht s x hs hb hdep
  have hi : i < 11 := (Array.getElem?_eq_some_iff.1 ho).1
  rcases p11 hi with rfl | rfl | rfl | rfl | rfl | rfl | rfl | rfl | rfl | rfl | rfl
  ·obtain rfl := sj ho
   obtain ⟨rfl, rfl⟩ := pk ht
   exact ⟨want_none rfl, fun K hK => st_move 0 11 _ (hb _ (List.Mem.head _)) (hK _ x hs (Below.refl _ _) nn1 rfl)⟩
  ·obtain rfl := sj ho
   obtain ⟨rfl, rfl⟩ := pk ht
   exact ⟨want_none rfl, fun K hK => st_quo10b 11 12 k (by omega) (hdep ⟨0, .data⟩ (by simp) rfl _ _ rfl) (hK _ x hs (Below.refl _ _) nn1 rfl)⟩
  ·obtain rfl := sj ho
   obtain ⟨rfl, rfl⟩ := pk ht
   exact ⟨want_none rfl, fun K hK => st_call own_kdecimal (ev1 (hdep ⟨1, .data⟩ (by simp) rfl _ _ rfl)) (HDC.out x) fun e x' h => by obtain ⟨rfl, hb1⟩ := h; exact ⟨_, rfl, hK _ x' (bcall hs hb1) hb1 nn1 rfl⟩⟩
  ·obtain rfl := sj ho
   obtain ⟨rfl, rfl⟩ := pk ht
   exact ⟨want_none rfl, fun K hK => st_move 0 14 _ (hb _ (List.Mem.head _)) (hK _ x hs (Below.refl _ _) nn1 rfl)⟩
  ·obtain rfl := sj ho
   obtain ⟨rfl, rfl⟩ := pk ht
   exact ⟨want_none rfl, fun K hK => st_rem10 14 15 k (hdep ⟨3, .data⟩ (by simp) rfl _ _ rfl) (hK _ x hs (Below.refl _ _) nn1 rfl)⟩
  ·obtain rfl := sj ho
   obtain ⟨rfl, rfl⟩ := pk ht
   exact ⟨want_none rfl, fun K hK => st_add48 15 16 (k % 10) (by omega) (hdep ⟨4, .data⟩ (by simp) rfl _ _ rfl) (hK _ x hs (Below.refl _ _) nn1 rfl)⟩
  ·obtain rfl := sj ho
   obtain ⟨rfl, rfl⟩ := pk ht
   exact ⟨want_none rfl, fun K hK => st_conv8 16 17 (k % 10) (by omega) (hdep ⟨5, .data⟩ (by simp) rfl _ _ rfl) (hK _ x hs (Below.refl _ _) nn1 (by rw [HC.out]))⟩
  ·obtain rfl := sj ho
   obtain ⟨rfl, rfl⟩ := pk ht
   exact ⟨want_none rfl, fun K hK => st_build1 17 18 c (hdep ⟨6, .data⟩ (by simp) rfl _ _ rfl) (hK _ _ (bal hs _) (bal (Below.refl _ _) _) nn1 ⟨_, rfl, World.rowIs_alloc x _ 5 _ fun i hi => by obtain rfl : i = 0 := (by simpa using hi); rfl⟩)⟩
  ·obtain rfl := sj ho
   obtain ⟨rfl, rfl⟩ := pk ht
   exact ⟨want_none rfl, fun K hK => st_conv1 18 19 c (hdep ⟨7, .data⟩ (by simp) rfl _ _ rfl) (hK _ x hs (Below.refl _ _) nn1 (by rw [HB.out]))⟩
  ·obtain rfl := sj ho
   obtain ⟨rfl, rfl⟩ := pk ht
   exact ⟨want_none rfl, fun K hK => st_cat 13 19 20 a b HZ.out.1 HZ.out.2 (hdep ⟨2, .data⟩ (by simp) rfl _ _ rfl) (hdep ⟨8, .data⟩ (by simp) rfl _ _ rfl) (hK _ x hs (Below.refl _ _) nn1 rfl)⟩
  ·obtain rfl := sj ho
   obtain ⟨rfl, rfl⟩ := pk ht
   exact ⟨want_none rfl, fun K hK => st_assign 20 2 _ (hdep ⟨9, .data⟩ (by simp) rfl _ _ rfl) (hK _ x hs (Below.refl _ _) nn1 rfl)⟩
 ·intro vs x hs hl hT
  obtain ⟨v0, v1, v2, v3, v4, v5, v6, v7, v8, v9, v10, rfl⟩ := len11 hl
  have h0 : (fun v _ => v = .int .i64 (k : Int)) v0 x := hT 0 _ _ rfl
  have h1 : (fun v _ => v = .int .i64 ((k / 10 : Nat) : Int)) v1 x := hT 1 _ _ rfl
  have h2 : (fun v _ => v = .string a) v2 x := hT 2 _ _ rfl
  have h3 : (fun v _ => v = .int .i64 (k : Int)) v3 x := hT 3 _ _ rfl
  have h4 : (fun v _ => v = .int .i64 ((k % 10 : Nat) : Int)) v4 x := hT 4 _ _ rfl
  have h5 : (fun v _ => v = .int .i64 (48 + ((k % 10 : Nat) : Int))) v5 x := hT 5 _ _ rfl
  have h6 : (fun v _ => v = .int .u8 c) v6 x := hT 6 _ _ rfl
  have h7 : (fun v x => One c v x) v7 x := hT 7 _ _ rfl
  have h8 : (fun v _ => v = .string b) v8 x := hT 8 _ _ rfl
  have h9 : (fun v _ => v = .string (a ++ b)) v9 x := hT 9 _ _ rfl
  have h10 : (fun v _ => v = .string (a ++ b)) v10 x := hT 10 _ _ rfl
  clear hl hT
  simp only [zipo, fill, List.foldl, Act.put, List.setIfInBounds_toArray, List.set_cons_zero, List.set_cons_succ]
  subst h10
  go_wp2
  go_ret
  exact ⟨by rw [HR.out]; rfl, hs⟩
theorem kdec_small (k : Nat) (h : k < 10) (w : World) : Calls Tryz.prog 27 #[.int .i64 (k : Int)] w fun e w' => e = .returned (.string ⟨#[UInt8.ofNat (48 + k)]⟩) ∧ Below w.heap.size w w' := by
 have HD : Hid ((⟨#[UInt8.ofNat (48 + k)]⟩ : ByteArray) = ⟨#[UInt8.ofNat (48 + (k : Int)).toNat]⟩) := by
  show _ = _
  congr 4
 have hcv := cvt1 (48 + (k : Int))
 go_enter Tryz.func27, Tryz.ntmps27
 go_wp2
 go_ret
 exact ⟨by rw [HD.out]; rfl, bal (Below.refl _ _) _⟩
theorem kdec_any : ∀ (f k : Nat), f ≤ 6 → k < 10 ^ (f + 1) → ∀ w, Calls Tryz.prog 27 #[.int .i64 (k : Int)] w fun e w' => e = .returned (.string (decF f k)) ∧ Below w.heap.size w w'
 | 0, k, _, hk, w => kdec_small k (by simpa using hk) w
 | f + 1, k, hf, hk, w => by
  by_cases h : k < 10
  ·rw [decF_small _ _ h]
   exact kdec_small k h w
  ·have h7 : 10 ^ (f + 1 + 1) ≤ 10 ^ 7 := Nat.pow_le_pow_right (by omega) (by omega)
   refine kdec_step f k (by omega) (by omega) (by have : (10 : Nat) ^ 7 = 10000000 := rfl; omega) w fun w => kdec_any f (k / 10) (by omega) ?_ w
   rw [Nat.pow_succ] at hk
   omega
end
section
open Go.RowKit
set_option maxHeartbeats 8000000
set_option maxRecDepth 100000
def hexd (d : Nat) : UInt8 := if d < 10 then UInt8.ofNat (48 + d) else UInt8.ofNat (87 + d)
def hexF (n : Nat) : Nat → ByteArray
 | 0 => ⟨#[48, 120]⟩
 | k + 1 => hexF n k ++ ⟨#[hexd (n / 16 ^ (63 - k) % 16)]⟩
theorem hexF_size (n : Nat) : ∀ k, (hexF n k).size = k + 2
 | 0 => rfl
 | k + 1 => by
  show (hexF n k ++ _).size = _
  rw [ByteArray.size_append, hexF_size n k]
  rfl
theorem i64_and15 (n : Int) : bits .and .i64 n 15 = n % 16 := by
 have h15 : (BitVec.ofInt 64 15).toNat = 2 ^ 4 - 1 := by decide
 have key : (BitVec.ofInt 64 n &&& BitVec.ofInt 64 15).toNat = (n % ((2 ^ 64 : Nat) : Int)).toNat % 2 ^ 4 := by
  rw [BitVec.toNat_and, BitVec.toNat_ofInt, h15, Nat.and_two_pow_sub_one_eq_mod]
 show IntKind.i64.wrap ((BitVec.ofInt 64 n &&& BitVec.ofInt 64 15).toNat : Nat) = n % 16
 rw [key, IntKind.wrap_i64]
 omega
theorem and15_wrap (n : Int) : bits .and .i64 (wrap64 n) 15 = n % 16 := by
 rw [i64_and15]
 unfold wrap64
 omega
theorem nib_lb (n i k : Nat) (hk : k < 16) : lb n i / 2 ^ (4 * k) % 16 = n / 16 ^ (16 * i + k) % 16 := by
 unfold lb
 have e : (16 : Nat) = 2 ^ 4 := rfl
 rw [pw64, e, ← Nat.pow_mul, show 4 * (16 * i + k) = 64 * i + 4 * k by omega]
 apply Nat.eq_of_testBit_eq
 intro j
 simp only [Nat.testBit_mod_two_pow, Nat.testBit_div_two_pow]
 by_cases hj : j < 4
 ·rw [decide_eq_true hj, Bool.true_and, Bool.true_and, decide_eq_true (by omega), Bool.true_and]
  congr 1; omega
 ·rw [decide_eq_false hj, Bool.false_and, Bool.false_and]
theorem hex_piece (d : Nat) (h : d < 16) : (⟨#[48, 49, 50, 51, 52, 53, 54, 55, 56, 57, 97, 98, 99, 100, 101, 102]⟩ : ByteArray).extract d (d + 1) = ⟨#[hexd d]⟩ := by
 rcases (by omega : d = 0 ∨ d = 1 ∨ d = 2 ∨ d = 3 ∨ d = 4 ∨ d = 5 ∨ d = 6 ∨ d = 7 ∨ d = 8 ∨ d = 9 ∨ d = 10 ∨ d = 11 ∨ d = 12 ∨ d = 13 ∨ d = 14 ∨ d = 15) with rfl | rfl | rfl | rfl | rfl | rfl | rfl | rfl | rfl | rfl | rfl | rfl | rfl | rfl | rfl | rfl <;> rfl
theorem knum_hex1 (n : Nat) (w : World) (d1 : (limb n 1 == 0) = false) : Calls Tryz.prog 9 #[wv n] w fun e w' => e = .returned (.string (hexF n 64)) ∧ Below w.heap.size w w' := by
 have hr : (w.alloc (wc n)).rowIs w.heap.size 24 4 (u64s (limb n)) := row_lit4 (limb n) rfl rfl rfl rfl rfl
 obtain ⟨s0, HS0⟩ : ∃ s0, Hid (s0 = hexF n 0) := ⟨_, rfl⟩
 go_enter Tryz.func9, Tryz.ntmps9
 go_wp2
 go_loopw [3, 4] (fun t3 t4 wr => ∃ (i : Nat) (s : ByteArray), i ≤ 4 ∧ t4 = .int .i64 ((i : Int) - 1) ∧ t3 = .string s ∧ Hid (s = hexF n (16 * (4 - i))) ∧ Hid (wr = w.alloc (wc n))) (fun _ t4 _ => (intOf t4 + 1).toNat)
 case atStart => exact ⟨4, _, by omega, rfl, rfl, rfl, rfl⟩
 case round =>
  obtain ⟨i, s, hi, rfl, rfl, HS, HW⟩ := hrel
  by_cases h0 : i = 0
  ·subst h0
   go_wp2
   go_ret
   exact ⟨by rw [HS.out]; rfl, by rw [HW.out]; exact bal (Below.refl _ _) _⟩
  ·obtain ⟨m, rfl⟩ : ∃ m, i = m + 1 := ⟨i - 1, by omega⟩
   rw [show (((m + 1 : Nat) : Int) - 1) = (m : Int) by omega]
   go_wp2
   go_loopw [3, 5] (fun t3 t5 wq => ∃ (q : Nat) (s : ByteArray), q ≤ 16 ∧ t5 = .int .i64 (4 * (q : Int) - 4) ∧ t3 = .string s ∧ Hid (s = hexF n (16 * (3 - m) + (16 - q))) ∧ Hid (wq = w.alloc (wc n))) (fun _ t5 _ => (intOf t5 + 4).toNat)
   case atStart => exact ⟨16, s, by omega, rfl, rfl, by rw [HS.out]; show _ = _; congr 1; omega, HW⟩
   case round =>
    clear HS HW
    obtain ⟨q, s, hq, rfl, rfl, HS, HW⟩ := hrel
    by_cases hq0 : q = 0
    ·subst hq0
     go_wp2
     go_roundw
     case rel => exact ⟨m, _, by omega, by go_num, rfl, by rw [HS.out]; show _ = _; congr 1; omega, HW⟩
     case measure => simp [intOf]
    ·obtain ⟨r, rfl⟩ : ∃ r, q = r + 1 := ⟨q - 1, by omega⟩
     obtain ⟨z, HZ⟩ : ∃ z : Nat, Hid (z = 4 * r) := ⟨_, rfl⟩
     have hz60 : z ≤ 60 := by rw [HZ.out]; omega
     rw [show (4 * (((r + 1 : Nat)) : Int) - 4) = (z : Int) by rw [HZ.out]; omega]
     obtain ⟨dg, HDG⟩ : ∃ dg : Nat, Hid (dg = n / 16 ^ (16 * m + r) % 16) := ⟨_, rfl⟩
     have hdg : dg < 16 := by rw [HDG.out]; exact Nat.mod_lt _ (by omega)
     have hand : bits .and .i64 (wrap64 ((lb n m : Int) / 2 ^ z)) 15 = (dg : Int) := by
      rw [and15_wrap, HDG.out, ← nib_lb n m r (by omega), HZ.out]
      simp
     have hpc := hex_piece dg hdg
     have hd0 : decide ((0 : Int) ≤ (z : Int)) = true := decide_eq_true (by omega)
     have hrow := hr
     rw [← HW.out] at hrow
     have cw := hrow.cell (i := m) (by omega)
     simp only [u64s, limb_lb] at cw
     clear hrow
     have hsz : s.size ≤ 100 := by rw [HS.out, hexF_size]; omega
     go_wp2
     refine ⟨⟨r, _, by omega, by rw [HZ.out]; go_num, rfl, ?_, HW⟩, by simp only [intOf]; rw [HZ.out]; omega⟩
     rw [HS.out, HDG.out]
     show _ = hexF n _
     rw [show 16 * (3 - m) + (16 - r) = 16 * (3 - m) + (16 - (r + 1)) + 1 by omega]
     show _ = hexF n _ ++ _
     rw [show 63 - (16 * (3 - m) + (16 - (r + 1))) = 16 * m + r by omega]
theorem knum_hex2 (n : Nat) (w : World) (d1 : (limb n 1 == 0) = true) (d2 : (limb n 2 == 0) = false) : Calls Tryz.prog 9 #[wv n] w fun e w' => e = .returned (.string (hexF n 64)) ∧ Below w.heap.size w w' := by
 have hr : (w.alloc (wc n)).rowIs w.heap.size 24 4 (u64s (limb n)) := row_lit4 (limb n) rfl rfl rfl rfl rfl
 obtain ⟨s0, HS0⟩ : ∃ s0, Hid (s0 = hexF n 0) := ⟨_, rfl⟩
 go_enter Tryz.func9, Tryz.ntmps9
 go_wp2
 go_loopw [3, 4] (fun t3 t4 wr => ∃ (i : Nat) (s : ByteArray), i ≤ 4 ∧ t4 = .int .i64 ((i : Int) - 1) ∧ t3 = .string s ∧ Hid (s = hexF n (16 * (4 - i))) ∧ Hid (wr = w.alloc (wc n))) (fun _ t4 _ => (intOf t4 + 1).toNat)
 case atStart => exact ⟨4, _, by omega, rfl, rfl, rfl, rfl⟩
 case round =>
  obtain ⟨i, s, hi, rfl, rfl, HS, HW⟩ := hrel
  by_cases h0 : i = 0
  ·subst h0
   go_wp2
   go_ret
   exact ⟨by rw [HS.out]; rfl, by rw [HW.out]; exact bal (Below.refl _ _) _⟩
  ·obtain ⟨m, rfl⟩ : ∃ m, i = m + 1 := ⟨i - 1, by omega⟩
   rw [show (((m + 1 : Nat) : Int) - 1) = (m : Int) by omega]
   go_wp2
   go_loopw [3, 5] (fun t3 t5 wq => ∃ (q : Nat) (s : ByteArray), q ≤ 16 ∧ t5 = .int .i64 (4 * (q : Int) - 4) ∧ t3 = .string s ∧ Hid (s = hexF n (16 * (3 - m) + (16 - q))) ∧ Hid (wq = w.alloc (wc n))) (fun _ t5 _ => (intOf t5 + 4).toNat)
   case atStart => exact ⟨16, s, by omega, rfl, rfl, by rw [HS.out]; show _ = _; congr 1; omega, HW⟩
   case round =>
    clear HS HW
    obtain ⟨q, s, hq, rfl, rfl, HS, HW⟩ := hrel
    by_cases hq0 : q = 0
    ·subst hq0
     go_wp2
     go_roundw
     case rel => exact ⟨m, _, by omega, by go_num, rfl, by rw [HS.out]; show _ = _; congr 1; omega, HW⟩
     case measure => simp [intOf]
    ·obtain ⟨r, rfl⟩ : ∃ r, q = r + 1 := ⟨q - 1, by omega⟩
     obtain ⟨z, HZ⟩ : ∃ z : Nat, Hid (z = 4 * r) := ⟨_, rfl⟩
     have hz60 : z ≤ 60 := by rw [HZ.out]; omega
     rw [show (4 * (((r + 1 : Nat)) : Int) - 4) = (z : Int) by rw [HZ.out]; omega]
     obtain ⟨dg, HDG⟩ : ∃ dg : Nat, Hid (dg = n / 16 ^ (16 * m + r) % 16) := ⟨_, rfl⟩
     have hdg : dg < 16 := by rw [HDG.out]; exact Nat.mod_lt _ (by omega)
     have hand : bits .and .i64 (wrap64 ((lb n m : Int) / 2 ^ z)) 15 = (dg : Int) := by
      rw [and15_wrap, HDG.out, ← nib_lb n m r (by omega), HZ.out]
      simp
     have hpc := hex_piece dg hdg
     have hd0 : decide ((0 : Int) ≤ (z : Int)) = true := decide_eq_true (by omega)
     have hrow := hr
     rw [← HW.out] at hrow
     have cw := hrow.cell (i := m) (by omega)
     simp only [u64s, limb_lb] at cw
     clear hrow
     have hsz : s.size ≤ 100 := by rw [HS.out, hexF_size]; omega
     go_wp2
     refine ⟨⟨r, _, by omega, by rw [HZ.out]; go_num, rfl, ?_, HW⟩, by simp only [intOf]; rw [HZ.out]; omega⟩
     rw [HS.out, HDG.out]
     show _ = hexF n _
     rw [show 16 * (3 - m) + (16 - r) = 16 * (3 - m) + (16 - (r + 1)) + 1 by omega]
     show _ = hexF n _ ++ _
     rw [show 63 - (16 * (3 - m) + (16 - (r + 1))) = 16 * m + r by omega]
theorem knum_hex3 (n : Nat) (w : World) (d1 : (limb n 1 == 0) = true) (d2 : (limb n 2 == 0) = true) (d3 : (limb n 3 == 0) = false) : Calls Tryz.prog 9 #[wv n] w fun e w' => e = .returned (.string (hexF n 64)) ∧ Below w.heap.size w w' := by
 have hr : (w.alloc (wc n)).rowIs w.heap.size 24 4 (u64s (limb n)) := row_lit4 (limb n) rfl rfl rfl rfl rfl
 obtain ⟨s0, HS0⟩ : ∃ s0, Hid (s0 = hexF n 0) := ⟨_, rfl⟩
 go_enter Tryz.func9, Tryz.ntmps9
 go_wp2
 go_loopw [3, 4] (fun t3 t4 wr => ∃ (i : Nat) (s : ByteArray), i ≤ 4 ∧ t4 = .int .i64 ((i : Int) - 1) ∧ t3 = .string s ∧ Hid (s = hexF n (16 * (4 - i))) ∧ Hid (wr = w.alloc (wc n))) (fun _ t4 _ => (intOf t4 + 1).toNat)
 case atStart => exact ⟨4, _, by omega, rfl, rfl, rfl, rfl⟩
 case round =>
  obtain ⟨i, s, hi, rfl, rfl, HS, HW⟩ := hrel
  by_cases h0 : i = 0
  ·subst h0
   go_wp2
   go_ret
   exact ⟨by rw [HS.out]; rfl, by rw [HW.out]; exact bal (Below.refl _ _) _⟩
  ·obtain ⟨m, rfl⟩ : ∃ m, i = m + 1 := ⟨i - 1, by omega⟩
   rw [show (((m + 1 : Nat) : Int) - 1) = (m : Int) by omega]
   go_wp2
   go_loopw [3, 5] (fun t3 t5 wq => ∃ (q : Nat) (s : ByteArray), q ≤ 16 ∧ t5 = .int .i64 (4 * (q : Int) - 4) ∧ t3 = .string s ∧ Hid (s = hexF n (16 * (3 - m) + (16 - q))) ∧ Hid (wq = w.alloc (wc n))) (fun _ t5 _ => (intOf t5 + 4).toNat)
   case atStart => exact ⟨16, s, by omega, rfl, rfl, by rw [HS.out]; show _ = _; congr 1; omega, HW⟩
   case round =>
    clear HS HW
    obtain ⟨q, s, hq, rfl, rfl, HS, HW⟩ := hrel
    by_cases hq0 : q = 0
    ·subst hq0
     go_wp2
     go_roundw
     case rel => exact ⟨m, _, by omega, by go_num, rfl, by rw [HS.out]; show _ = _; congr 1; omega, HW⟩
     case measure => simp [intOf]
    ·obtain ⟨r, rfl⟩ : ∃ r, q = r + 1 := ⟨q - 1, by omega⟩
     obtain ⟨z, HZ⟩ : ∃ z : Nat, Hid (z = 4 * r) := ⟨_, rfl⟩
     have hz60 : z ≤ 60 := by rw [HZ.out]; omega
     rw [show (4 * (((r + 1 : Nat)) : Int) - 4) = (z : Int) by rw [HZ.out]; omega]
     obtain ⟨dg, HDG⟩ : ∃ dg : Nat, Hid (dg = n / 16 ^ (16 * m + r) % 16) := ⟨_, rfl⟩
     have hdg : dg < 16 := by rw [HDG.out]; exact Nat.mod_lt _ (by omega)
     have hand : bits .and .i64 (wrap64 ((lb n m : Int) / 2 ^ z)) 15 = (dg : Int) := by
      rw [and15_wrap, HDG.out, ← nib_lb n m r (by omega), HZ.out]
      simp
     have hpc := hex_piece dg hdg
     have hd0 : decide ((0 : Int) ≤ (z : Int)) = true := decide_eq_true (by omega)
     have hrow := hr
     rw [← HW.out] at hrow
     have cw := hrow.cell (i := m) (by omega)
     simp only [u64s, limb_lb] at cw
     clear hrow
     have hsz : s.size ≤ 100 := by rw [HS.out, hexF_size]; omega
     go_wp2
     refine ⟨⟨r, _, by omega, by rw [HZ.out]; go_num, rfl, ?_, HW⟩, by simp only [intOf]; rw [HZ.out]; omega⟩
     rw [HS.out, HDG.out]
     show _ = hexF n _
     rw [show 16 * (3 - m) + (16 - r) = 16 * (3 - m) + (16 - (r + 1)) + 1 by omega]
     show _ = hexF n _ ++ _
     rw [show 63 - (16 * (3 - m) + (16 - (r + 1))) = 16 * m + r by omega]
theorem knum_hex4 (n : Nat) (w : World) (d1 : (limb n 1 == 0) = true) (d2 : (limb n 2 == 0) = true) (d3 : (limb n 3 == 0) = true) (d0 : decide (limb n 0 < 1000000) = false) : Calls Tryz.prog 9 #[wv n] w fun e w' => e = .returned (.string (hexF n 64)) ∧ Below w.heap.size w w' := by
 have hr : (w.alloc (wc n)).rowIs w.heap.size 24 4 (u64s (limb n)) := row_lit4 (limb n) rfl rfl rfl rfl rfl
 obtain ⟨s0, HS0⟩ : ∃ s0, Hid (s0 = hexF n 0) := ⟨_, rfl⟩
 go_enter Tryz.func9, Tryz.ntmps9
 go_wp2
 go_loopw [3, 4] (fun t3 t4 wr => ∃ (i : Nat) (s : ByteArray), i ≤ 4 ∧ t4 = .int .i64 ((i : Int) - 1) ∧ t3 = .string s ∧ Hid (s = hexF n (16 * (4 - i))) ∧ Hid (wr = w.alloc (wc n))) (fun _ t4 _ => (intOf t4 + 1).toNat)
 case atStart => exact ⟨4, _, by omega, rfl, rfl, rfl, rfl⟩
 case round =>
  clear d0
  obtain ⟨i, s, hi, rfl, rfl, HS, HW⟩ := hrel
  by_cases h0 : i = 0
  ·subst h0
   go_wp2
   go_ret
   exact ⟨by rw [HS.out]; rfl, by rw [HW.out]; exact bal (Below.refl _ _) _⟩
  ·obtain ⟨m, rfl⟩ : ∃ m, i = m + 1 := ⟨i - 1, by omega⟩
   rw [show (((m + 1 : Nat) : Int) - 1) = (m : Int) by omega]
   go_wp2
   go_loopw [3, 5] (fun t3 t5 wq => ∃ (q : Nat) (s : ByteArray), q ≤ 16 ∧ t5 = .int .i64 (4 * (q : Int) - 4) ∧ t3 = .string s ∧ Hid (s = hexF n (16 * (3 - m) + (16 - q))) ∧ Hid (wq = w.alloc (wc n))) (fun _ t5 _ => (intOf t5 + 4).toNat)
   case atStart => exact ⟨16, s, by omega, rfl, rfl, by rw [HS.out]; show _ = _; congr 1; omega, HW⟩
   case round =>
    clear HS HW
    obtain ⟨q, s, hq, rfl, rfl, HS, HW⟩ := hrel
    by_cases hq0 : q = 0
    ·subst hq0
     go_wp2
     go_roundw
     case rel => exact ⟨m, _, by omega, by go_num, rfl, by rw [HS.out]; show _ = _; congr 1; omega, HW⟩
     case measure => simp [intOf]
    ·obtain ⟨r, rfl⟩ : ∃ r, q = r + 1 := ⟨q - 1, by omega⟩
     obtain ⟨z, HZ⟩ : ∃ z : Nat, Hid (z = 4 * r) := ⟨_, rfl⟩
     have hz60 : z ≤ 60 := by rw [HZ.out]; omega
     rw [show (4 * (((r + 1 : Nat)) : Int) - 4) = (z : Int) by rw [HZ.out]; omega]
     obtain ⟨dg, HDG⟩ : ∃ dg : Nat, Hid (dg = n / 16 ^ (16 * m + r) % 16) := ⟨_, rfl⟩
     have hdg : dg < 16 := by rw [HDG.out]; exact Nat.mod_lt _ (by omega)
     have hand : bits .and .i64 (wrap64 ((lb n m : Int) / 2 ^ z)) 15 = (dg : Int) := by
      rw [and15_wrap, HDG.out, ← nib_lb n m r (by omega), HZ.out]
      simp
     have hpc := hex_piece dg hdg
     have hd0 : decide ((0 : Int) ≤ (z : Int)) = true := decide_eq_true (by omega)
     have hrow := hr
     rw [← HW.out] at hrow
     have cw := hrow.cell (i := m) (by omega)
     simp only [u64s, limb_lb] at cw
     clear hrow
     have hsz : s.size ≤ 100 := by rw [HS.out, hexF_size]; omega
     go_wp2
     refine ⟨⟨r, _, by omega, by rw [HZ.out]; go_num, rfl, ?_, HW⟩, by simp only [intOf]; rw [HZ.out]; omega⟩
     rw [HS.out, HDG.out]
     show _ = hexF n _
     rw [show 16 * (3 - m) + (16 - r) = 16 * (3 - m) + (16 - (r + 1)) + 1 by omega]
     show _ = hexF n _ ++ _
     rw [show 63 - (16 * (3 - m) + (16 - (r + 1))) = 16 * m + r by omega]
theorem limb_eqb (n i : Nat) : (limb n i == 0) = decide (lb n i = 0) := by
 rw [limb_lb]
 by_cases h : lb n i = 0
 ·rw [h, decide_eq_true rfl]; rfl
 ·rw [decide_eq_false h]; simp; exact h
def numS (n : Nat) : ByteArray := if n % M < 1000000 then decF 6 (n % M) else hexF n 64
theorem small_split (n : Nat) : n % M < 1000000 ↔ lb n 1 = 0 ∧ lb n 2 = 0 ∧ lb n 3 = 0 ∧ lb n 0 < 1000000 := by
 unfold lb M
 constructor
 ·intro h
  refine ⟨?_, ?_, ?_, ?_⟩ <;> omega
 ·rintro ⟨h1, h2, h3, h0⟩
  omega
end
section
open Go.RowKit
set_option maxRecDepth 100000 in
set_option maxHeartbeats 2000000 in
theorem knum_dec (n : Nat) (h : n % M < 1000000) (w : World) : Calls Tryz.prog 9 #[wv n] w fun e w' => e = .returned (.string (decF 6 (n % M))) ∧ Below w.heap.size w w' := by
 obtain ⟨s1, s2, s3, s0⟩ := (small_split n).1 h
 have d1 : (limb n 1 == 0) = true := by rw [limb_eqb, decide_eq_true s1]
 have d2 : (limb n 2 == 0) = true := by rw [limb_eqb, decide_eq_true s2]
 have d3 : (limb n 3 == 0) = true := by rw [limb_eqb, decide_eq_true s3]
 have d0 : decide (limb n 0 < 1000000) = true := decide_eq_true (by rw [limb_lb]; omega)
 have hl : limb n 0 = ((n % M : Nat) : Int) := limb0_of (by omega)
 obtain ⟨k, HK⟩ : ∃ k : Nat, Hid (k = n % M) := ⟨_, rfl⟩
 rw [← HK.out] at hl
 have hk : k < 1000000 := by rw [HK.out]; exact h
 have HD := hid_of (kdec_any 6 k (by omega) (by omega))
 have hwk : IntKind.i64.wrap (k : Int) = (k : Int) := by rw [IntKind.wrap_i64]; omega
 clear s0 s1 s2 s3 h
 have d0 : decide ((k : Int) < 1000000) = true := by rw [← hl]; exact d0
 go_enter Tryz.func9, Tryz.ntmps9
 go_wp2_with fail
 refine (HD.out _).mono ?_
 rintro e w1 ⟨rfl, hb1⟩
 have HB := hid_of (bcall (bal (Below.refl w.heap.size w) _) hb1)
 clear hb1
 go_wp2
 go_ret
 exact ⟨by rw [← HK.out]; rfl, HB.out⟩
theorem knum_any (n : Nat) (w : World) : Calls Tryz.prog 9 #[wv n] w fun e w' => e = .returned (.string (numS n)) ∧ Below w.heap.size w w' := by
 unfold numS
 by_cases h : n % M < 1000000
 ·rw [if_pos h]
  exact knum_dec n h w
 ·rw [if_neg h]
  have h2 := fun g => h ((small_split n).2 g)
  by_cases h1 : lb n 1 = 0
  ·have d1 : (limb n 1 == 0) = true := by rw [limb_eqb, decide_eq_true h1]
   by_cases h3 : lb n 2 = 0
   ·have d2 : (limb n 2 == 0) = true := by rw [limb_eqb, decide_eq_true h3]
    by_cases h4 : lb n 3 = 0
    ·have d3 : (limb n 3 == 0) = true := by rw [limb_eqb, decide_eq_true h4]
     have h5 : ¬ lb n 0 < 1000000 := fun h5 => h2 ⟨h1, h3, h4, h5⟩
     exact knum_hex4 n w d1 d2 d3 (decide_eq_false (by rw [limb_lb]; omega))
    ·exact knum_hex3 n w d1 d2 (by rw [limb_eqb, decide_eq_false h4])
   ·exact knum_hex2 n w d1 (by rw [limb_eqb, decide_eq_false h3])
  ·exact knum_hex1 n w (by rw [limb_eqb, decide_eq_false h1])
end
end cin
end Go.Proofs.YtohoajjdoihekaaGreatDoor
