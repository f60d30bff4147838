import Derived.Test.YtohoajjdoihekaaGreatDoorSw
set_option linter.unusedVariables false
set_option linter.unusedSimpArgs false
namespace Go.Proofs.YtohoajjdoihekaaGreatDoor
namespace cin
section
open Go.RowKit
set_option maxRecDepth 100000 in
set_option maxHeartbeats 4000000 in
theorem storeWord_r2 {base fb : Nat} {F : FS} {S : List Nat} {sv mv : Value} {Q : Exit → Act → World → Prop} (a : Act) (w : World) {ba : Nat} {La : List UInt8} (har4 : ∀ x, Kb S w x → Rds x (.slice (some ⟨ba, 0, none⟩) 32 32) La) (hal4 : La.length = 32 % M) {bp np : Nat} (hr2 : wrow w bp (np)) (hr2n : bp ∉ S) (h : Fr base fb F S sv mv w) (hsz : decide (20 < a.tmps.size) = true) (c2 : a.tmps.getD 2 undef = .pointer (some ⟨bp, 0, none⟩)) (c4 : a.tmps.getD 4 undef = .pointer (some ⟨ba, 0, none⟩)) (c0 : a.tmps.getD 0 undef = .pointer (some ⟨fb, 0, none⟩))
  (hpan : ∀ u pv s x, (reachF (np) (32) (F) = none) → s.defers = a.defers → Kb S w x → Q (.panic [{ v := .iface u pv, recovered := false }]) s x)
  (hok : ∀ (x : World) (S' : List Nat) (sv' mv' : Value) (z3 : Value) (z5 : Value), Fr base fb (writeF (reachF (np) (32) (F)) La) S' sv' mv' x → Kb S w x → (∀ j ∈ S', j ∈ S ∨ w.heap.size ≤ j) → (Pr 1 (reachF (np) (32) (F))) (2, mv') S' z3 x → (AnyV) (2, mv') S' z5 x → Q .normal (fill a [(15, .pointer (some ⟨fb, 0, none⟩)), (16, wv (np)), (17, wv (32)), (18, z3), (19, .slice (some ⟨ba, 0, none⟩) 32 32), (20, z5)]) x) :
  (Code.region 2 #[⟨some 15, .move (.tmp 0), 132, "memory.go:46", #[], none⟩, ⟨some 16, .load 24 (.tmp 2), 24, "memory.go:46", #[], none⟩, ⟨some 17, .call ⟨.value (.func 262), #[.const (.int .i64 32)], #[3]⟩, 24, "memory.go:46", #[], none⟩, ⟨some 18, .call ⟨.value (.func 275), #[.tmp 15, .tmp 16, .tmp 17], #[132, 24, 24]⟩, 26, "memory.go:46", #[⟨0, .data⟩, ⟨1, .data⟩, ⟨2, .data⟩, ⟨2, .chain⟩], none⟩, ⟨some 19, .slice 298 (.tmp 4) none none none, 26, "memory.go:46", #[], none⟩, ⟨some 20, .call ⟨.builtin Builtin.copy, #[.tmp 18, .tmp 19], #[26, 26]⟩, 3, "memory.go:46", #[⟨3, .data⟩, ⟨4, .data⟩, ⟨3, .chain⟩], none⟩] true).wp Tryz.prog Q a w := by
 have hsz := of_decide_eq_true hsz
 refine wp_region_fs (by kernel_rfl) (by kernel_rfl) base fb (fun k => match k with | 0 => F | 1 => nextF (reachF (np) (32) (F)) | _ => writeF (reachF (np) (32) (F)) La) S w h.hs [(some 15, Cst (.pointer (some ⟨fb, 0, none⟩))), (some 16, Cst (wv (np))), (some 17, Cst (wv (32))), (some 18, Pr 1 (reachF (np) (32) (F))), (some 19, Cst (.slice (some ⟨ba, 0, none⟩) 32 32)), (some 20, AnyV)] [3, 5] [] rfl (by rfl) ?_ ?_ ?_ S sv mv (h.below (Below.refl _ _).drew) (Kb.refl _ _).drew (fun j hj => Or.inl hj) [(2, .pointer (some ⟨bp, 0, none⟩)), (4, .pointer (some ⟨ba, 0, none⟩)), (0, .pointer (some ⟨fb, 0, none⟩))] ?_ (by rfl) (by kernel_rfl) (by rfl) (by rfl) ?_ ?_ ?_ ?_ ?_ ?_
 ·refine List.all_eq_true.2 fun d hd => decide_eq_true ?_
  have hd2 : d ∈ ([15, 16, 17, 18, 19, 20] : List Nat) := hd
  simp at hd2
  omega
 ·intro i d T ht
  have hm := List.mem_of_getElem? ht
  simp only [List.mem_cons, List.not_mem_nil, or_false, Prod.mk.injEq] at hm
  rcases hm with ⟨_, rfl⟩ | ⟨_, rfl⟩ | ⟨_, rfl⟩ | ⟨_, rfl⟩ | ⟨_, rfl⟩ | ⟨_, rfl⟩ <;> first | exact cst_stable _ | exact plc_stable | exact pc_stable _ | exact ln_stable _ | exact pr_stable _ _ | exact any_stable | exact prA_stable _ _ | exact stk_stable _ | exact wat_stable _ | exact nv_stable
 ·exact fun hne => absurd rfl hne
 ·intro p hp
  simp only [List.mem_cons, List.not_mem_nil, or_false] at hp
  rcases hp with rfl | rfl | rfl
  ·exact c2
  ·exact c4
  ·exact c0
 ·intro b hb; cases hb
 ·intro i o d T ho ht hic hnb s x k S1 sv1 mv1 hfr hkb hb hdep hkp
  have hi : i < 6 := (Array.getElem?_eq_some_iff.1 ho).1
  rcases ltq6 hi with rfl | rfl | rfl | rfl | rfl | rfl
  ·obtain rfl := sj ho
   obtain ⟨rfl, rfl⟩ := pk ht
   exact ⟨want_none rfl, fun K hK => st_move 0 15 _ (hb (0, .pointer (some ⟨fb, 0, none⟩)) (List.Mem.tail _ (List.Mem.tail _ (List.Mem.head _)))) (hK _ x (Below.refl _ _) (fun h => by cases h) rfl)⟩
  ·obtain rfl := sj ho
   obtain ⟨rfl, rfl⟩ := pk ht
   exact ⟨want_none rfl, fun K hK => st_load 2 16 _ _ (hb (2, .pointer (some ⟨bp, 0, none⟩)) (List.Mem.head _)) (hkb.row hr2 hr2n) (hK _ x (Below.refl _ _) (fun h => by cases h) rfl)⟩
  ·obtain rfl := sj ho
   obtain ⟨rfl, rfl⟩ := pk ht
   exact ⟨want_none rfl, fun K hK => st_call own_small (ev1 rfl) (hsmall_any (32) (by omega) x) (fun e x' h9 => ⟨_, h9.1, hK _ x' h9.2 (fun h => by cases h) rfl⟩)⟩
  ·exact absurd (by simp) hic
  ·obtain rfl := sj ho
   obtain ⟨rfl, rfl⟩ := pk ht
   exact ⟨want_none rfl, fun K hK => st_sliceA (hb (4, .pointer (some ⟨ba, 0, none⟩)) (List.Mem.tail _ (List.Mem.head _))) (hK _ x (Below.refl _ _) (fun h => by cases h) rfl)⟩
  ·exact absurd (by simp) hic
 ·intro p i o d T hp ho ht s x S1 sv1 mv1 hfr hkb hsub hdf hb hdep
  match p, hp with
  | 0, hp =>
   obtain rfl := Option.some.inj (show some 3 = some i from hp)
   obtain rfl := sj ho
   obtain ⟨rfl, rfl⟩ := pk ht
   refine ⟨want_none rfl, fun K hK => st_outP (r := reachF (np) (32) (F)) own_part (ev3 (hdep ⟨0, .data⟩ (by simp) rfl _ _ rfl) (hdep ⟨1, .data⟩ (by simp) rfl _ _ rfl) (hdep ⟨2, .data⟩ (by simp) rfl _ _ rfl)) (part_I (np) (32) x hfr) (fun u pv x' hrn hk => hpan u pv s x' hrn hdf (hkb.trans hk hsub)) (fun y v F' S2 sv2 mv2 x' hr h1 h2 h3 h4 => ?_)⟩
   refine hK _ S2 sv2 mv2 x' ?_ h2 h3 (fun h => by cases h) ?_
   ·show Fr base fb (nextF (reachF (np) (32) (F))) S2 sv2 mv2 x'
    rw [hr]
    exact h1
   ·obtain ⟨ad9, cp9, e9, r9⟩ := h4
    rw [hr]
    exact ⟨Nat.le_refl _, ⟨ad9, cp9, e9⟩, fun _ => ⟨ad9, cp9, e9, r9⟩⟩
  | 1, hp =>
   obtain rfl := Option.some.inj (show some 5 = some i from hp)
   obtain rfl := sj ho
   obtain ⟨rfl, rfl⟩ := pk ht
   refine ⟨want_none rfl, fun K hK => ?_⟩
   obtain ⟨y9, x9, h7, h8, h9⟩ := Pr.copy (hdep ⟨3, .data⟩ (by simp) rfl _ _ rfl) hfr (har4 x hkb) hal4 3
   exact st_copy rfl (hdep ⟨4, .data⟩ (by simp) rfl _ _ rfl) h7 (hK _ S1 sv1 mv1 x9 h8 h9 (fun j hj => Or.inl hj) (fun h => by cases h) trivial)
  | _ + 2, hp => cases hp
 ·intro b hb; cases hb
 ·intro b hb; cases hb
 ·intro vs x S1 sv1 mv1 hfr hkb hsub hl hT hB
  obtain ⟨v0, v1, v2, v3, v4, v5, rfl⟩ := lenq6 (hl : vs.length = 6)
  obtain rfl : v0 = .pointer (some ⟨fb, 0, none⟩) := hT 0 _ _ rfl
  obtain rfl : v1 = wv (np) := hT 1 _ _ rfl
  obtain rfl : v2 = wv (32) := hT 2 _ _ rfl
  have t3 : (Pr 1 (reachF (np) (32) (F))) (2, mv1) S1 v3 x := hT 3 _ _ rfl
  obtain rfl : v4 = .slice (some ⟨ba, 0, none⟩) 32 32 := hT 4 _ _ rfl
  have t5 : (AnyV) (2, mv1) S1 v5 x := hT 5 _ _ rfl
  exact hok x S1 sv1 mv1 v3 v5 hfr hkb hsub t3 t5
end
section
open Go.RowKit
abbrev pop2 (F : FS) : FS := nextF (popF (nextF (popF F)))
abbrev top1 (F : FS) : Nat := gotN (popF F)
abbrev top2 (F : FS) : Nat := gotN (popF (nextF (popF F)))
def storeWordF (F : FS) : Option (Unit × FS) :=
 thenF (popF F) (thenF (popF (nextF (popF F))) (thenF (reachF (top1 F) 32 (pop2 F)) (some ((), writeF (reachF (top1 F) 32 (pop2 F)) (bys (top2 F) 0)))))
theorem st_allocA {s : Act} {x : World} {pos : String} {af : Array Edge} {g : Option (Nat × Bool)} {K : Act → World → Prop} {Q : Exit → Act → World → Prop} {d : Nat} {ty : TypeId}
  (hK : K (s.put (some d) (.pointer (some ⟨x.heap.size, 0, none⟩))) (x.alloc (.cells (rowCells 32 (u8s fun _ => 0)).toArray 298))) :
  Oper.wp Tryz.prog ⟨some d, .alloc 298, ty, pos, af, g⟩ s x K Q := by
 go_simp
 exact hK
theorem row_zero32 (w : World) : (w.alloc (.cells (rowCells 32 (u8s fun _ => 0)).toArray 298)).rowIs w.heap.size 298 32 (u8s fun _ => 0) := by
 have h := World.rowIs_alloc w (rowCells 32 (u8s fun _ => 0)).toArray 298 (u8s fun _ => 0) (fun i hi => by
  have hi2 : i < 32 := by simpa [rowCells] using hi
  simp [rowCells, hi2])
 simpa [rowCells] using h
set_option maxRecDepth 100000 in
set_option maxHeartbeats 4000000 in
theorem storeWord_I {base fb : Nat} {F : FS} {S : List Nat} {sv mv : Value} (w : World) (h : Fr base fb F S sv mv w) :
  Calls Tryz.prog 266 #[.pointer (some ⟨fb, 0, none⟩)] w (Out (storeWordF F) unitV base fb S w) := by
 go_enter Tryz.func266, Tryz.ntmps266
 go_wp2
 refine storeWord_r0 _ _ h rfl rfl ?_ ?_
 ·intro u pv s x hno hd hk
  have e : storeWordF F = none := by
   rcases hno with e | e
   ·exact thenF_none (Or.inl e)
   ·exact thenF_none (Or.inr (thenF_none (Or.inl e)))
  rw [e]
  exact ⟨hd, ⟨_, _, rfl⟩, hk⟩
 ·intro x S' sv' mv' b0 b1 hfr hkb hsub hn0 hg0 hr0 hn1 hg1 hr1
  have e : storeWordF F = thenF (reachF (top1 F) 32 (pop2 F)) (some ((), writeF (reachF (top1 F) 32 (pop2 F)) (bys (top2 F) 0))) := (thenF_ok fun e => no_bd (bd_pop (bd_none e)) hfr).trans (thenF_ok fun e => no_bd (bd_none e) hfr)
  have HE := hid_of e
  clear e
  change Fr base fb (pop2 F) S' sv' mv' x at hfr
  change wrow x b0 (top1 F) at hr0
  change wrow x b1 (top2 F) at hr1
  simp only [fill, List.foldl_cons, List.foldl_nil, Act.put]
  generalize pop2 F = F2 at *
  generalize top1 F = p at *
  generalize top2 F = q at *
  generalize storeWordF F = R at *
  have HFR := hid_of hfr
  have HKB := hid_of hkb
  have HSU := hid_of hsub
  have HR0 := hid_of hr0
  obtain ⟨c0, c1, c2, c3⟩ := row_cells4 hr1
  have HT := hid_of (toBytes_any q)
  clear hfr hkb hsub hr0 hr1
  go_wp2_with fail
  refine (HT.out _).mono ?_
  rintro e x1 ⟨rfl, hb1⟩
  rename_i K1 k1 K2 k2
  refine k2 _ _ ?_
  refine wpList_plain rfl fun K3 k3 => st_allocA (k3 _ _ ?_)
  have hrow : (x1.alloc (.cells (rowCells 32 (u8s fun _ => 0)).toArray 298)).rowIs x1.heap.size 298 32 (u8s fun _ => 0) := row_zero32 x1
  refine wpList_plain rfl fun K4 k4 => st_storeA (cs := (bys q 0).map u8v) 4 14 x1.heap.size (fun w => by kernel_rfl) (by simp [bys]) (u8v_one _) rfl rfl hrow (k4 _ _ ?_)
  refine wpList_nil ?_
  refine k1 _ _ ?_
  have hB2 : Below x.heap.size x ((x1.alloc (.cells (rowCells 32 (u8s fun _ => 0)).toArray 298)).setRow x1.heap.size ((bys q 0).map u8v).toArray) := below_setRow (bal hb1 _) hb1.size _
  have hA2 : ((x1.alloc (.cells (rowCells 32 (u8s fun _ => 0)).toArray 298)).setRow x1.heap.size ((bys q 0).map u8v).toArray).heap[x1.heap.size]? = some (.cells ((bys q 0).map u8v).toArray 298 (0, 0)) := by
   obtain ⟨c, hb, _⟩ := hrow
   exact setRow_heap _ _ _ _ _ _ hb
  have hlt : x.heap.size ≤ x1.heap.size := hb1.size
  generalize x1.heap.size = ba at *
  generalize (x1.alloc (.cells (rowCells 32 (u8s fun _ => 0)).toArray 298)).setRow ba ((bys q 0).map u8v).toArray = x2 at *
  have hbaS : ba ∉ S' := fun hm => by have := HFR.out.footlt ba hm; omega
  refine storeWord_r2 (F := F2) (S := S') (La := bys q 0) (ba := ba) (bp := b0) (np := p) _ x2 ?_ (by simp [bys]; decide) (row_below HR0.out hB2) hn0 (HFR.out.below hB2) rfl rfl rfl rfl ?_ ?_
  ·intro y hy
   refine ⟨some ⟨ba, 0, none⟩, 32, by simp [bys], by simp [bys], fun _ => ⟨ba, 0, rfl, ?_, fun i hi => ?_⟩⟩
   ·exact Nat.lt_of_lt_of_le (lt_of_block hA2) hy.size
   ·rw [World.cell?_of_block (hy.block ba (lt_of_block hA2) hbaS), Nat.zero_add]
    simp only [World.cell?, hA2]
    simp [hi]
  ·intro u pv s y hno hd hk
   have e : R = none := HE.out.trans (thenF_none (Or.inl hno))
   rw [e]
   exact ⟨hd, ⟨_, _, rfl⟩, (HKB.out.trans ((Kb.of_below hB2).trans hk (fun j hj => Or.inl hj)) HSU.out)⟩
  ·intro y S2 sv2 mv2 z3 z5 hf2 hk2 hs2 hz3 hz5
   have e : R = some ((), writeF (reachF p 32 F2) (bys q 0)) := HE.out.trans (thenF_ok fun e => by rw [e] at hf2; exact no_bd bd_bad hf2)
   have hk3 := (Kb.of_below (S := S') hB2).trans hk2 (fun j hj => Or.inl hj)
   have HO : Hid (Out R unitV base fb S w (.returned (.tuple #[])) y) := by
    rw [e]
    exact ⟨rfl, S2, sv2, mv2, hf2, HKB.out.trans hk3 HSU.out, fun j hj => (hs2 j hj).elim (HSU.out j) (fun h => Or.inr (Nat.le_trans HKB.out.size (Nat.le_trans hB2.size h)))⟩
   clear e hf2 hk2 hs2 hz3 hz5 hk3
   simp only [fill, List.foldl_cons, List.foldl_nil, Act.put]
   go_wp2
   go_end0
   exact HO.out
end
section
open Go.RowKit
end
section
open Go.RowKit
set_option maxRecDepth 100000 in
set_option maxHeartbeats 4000000 in
theorem jump_r1 {base fb : Nat} {F : FS} {S : List Nat} {sv mv : Value} {Q : Exit → Act → World → Prop} (a : Act) (w : World) {bp np : Nat} (hr3 : wrow w bp (np)) (hr3n : bp ∉ S) (hup6 : F.code.size < 9223372036854775808) (h : Fr base fb F S sv mv w) (hsz : decide (15 < a.tmps.size) = true) (c3 : a.tmps.getD 3 undef = .pointer (some ⟨bp, 0, none⟩)) (c0 : a.tmps.getD 0 undef = .pointer (some ⟨fb, 0, none⟩))
  (hpan : ∀ u pv s x, False → s.defers = a.defers → Kb S w x → Q (.panic [{ v := .iface u pv, recovered := false }]) s x)
  (hok : ∀ (x : World) (S' : List Nat) (sv' mv' : Value), Fr base fb (F) S' sv' mv' x → Kb S w x → (∀ j ∈ S', j ∈ S ∨ w.heap.size ≤ j) → Q .normal (fill a [(7, wv (np)), (8, .pointer (some ⟨fb, 0, none⟩)), (9, .pointer (some ⟨fb, 0, none⟩)), (10, .pointer (some ⟨fb, 1, none⟩)), (11, .string F.code), (12, .int .i64 (F.code.size : Int)), (13, .tuple #[.int .i64 ((upN (np) (F.code.size) : Nat) : Int), .bool (upB (np) (F.code.size))]), (6, .tuple #[.int .i64 ((upN (np) (F.code.size) : Nat) : Int), .bool (upB (np) (F.code.size))]), (14, .int .i64 ((upN (np) (F.code.size) : Nat) : Int)), (15, .bool (upB (np) (F.code.size))), (4, .int .i64 ((upN (np) (F.code.size) : Nat) : Int)), (5, .bool (upB (np) (F.code.size)))]) x) :
  (Code.region 1 #[⟨some 7, .load 24 (.tmp 3), 24, "instructions.go:105", #[], none⟩, ⟨some 8, .move (.tmp 0), 132, "instructions.go:105", #[], none⟩, ⟨some 9, .nilCheck (.tmp 8), 0, "instructions.go:105", #[⟨1, .data⟩], none⟩, ⟨some 10, .fieldAddr 137 (.tmp 9) 1, 0, "instructions.go:105", #[⟨2, .data⟩], none⟩, ⟨some 11, .load 9 (.tmp 10), 9, "instructions.go:105", #[⟨3, .data⟩], none⟩, ⟨some 12, .call ⟨.builtin Builtin.len, #[.tmp 11], #[9]⟩, 3, "instructions.go:105", #[⟨4, .data⟩], none⟩, ⟨some 13, .call ⟨.value (.func 284), #[.tmp 7, .tmp 12], #[24, 3]⟩, 114, "instructions.go:105", #[⟨0, .data⟩, ⟨5, .data⟩], none⟩, ⟨some 6, .move (.tmp 13), 114, "instructions.go:105", #[⟨6, .data⟩], none⟩, ⟨some 14, .extract (.tmp 6) 0, 3, "instructions.go:105", #[⟨7, .data⟩], none⟩, ⟨some 15, .extract (.tmp 6) 1, 4, "instructions.go:105", #[⟨7, .data⟩, { on := 10, ground := Ground.gcOnly Departure.lateStores }], none⟩, ⟨some 4, .assign (.tmp 14), 3, "instructions.go:105", #[⟨8, .data⟩, ⟨6, .chain⟩, ⟨0, .phase⟩, ⟨1, .phase⟩, ⟨2, .phase⟩, ⟨3, .phase⟩, ⟨4, .phase⟩, ⟨5, .phase⟩, ⟨6, .phase⟩, ⟨7, .phase⟩, ⟨8, .phase⟩, { on := 9, ground := Ground.textOnly Departure.lateStores }], none⟩, ⟨some 5, .assign (.tmp 15), 4, "instructions.go:105", #[⟨9, .data⟩, ⟨10, .chain⟩, ⟨0, .phase⟩, ⟨1, .phase⟩, ⟨2, .phase⟩, ⟨3, .phase⟩, ⟨4, .phase⟩, ⟨5, .phase⟩, ⟨6, .phase⟩, ⟨7, .phase⟩, ⟨8, .phase⟩, ⟨9, .phase⟩, ⟨10, .phase⟩], none⟩] true).wp Tryz.prog Q a w := by
 have hsz := of_decide_eq_true hsz
 have hsame : ∀ k : Nat, 100000 < ((fun _ : Nat => F) k).gas ∨ Same F ((fun _ : Nat => F) k) := by
  intro k
  have s0 : 100000 < (F).gas ∨ Same F F := Or.inr (Same.refl F)
  exact s0
 refine wp_region_fs (by kernel_rfl) (by kernel_rfl) base fb (fun _ : Nat => F) S w h.hs [(some 7, Cst (wv (np))), (some 8, Cst (.pointer (some ⟨fb, 0, none⟩))), (some 9, Cst (.pointer (some ⟨fb, 0, none⟩))), (some 10, Cst (.pointer (some ⟨fb, 1, none⟩))), (some 11, Cst (.string F.code)), (some 12, Cst (.int .i64 (F.code.size : Int))), (some 13, Cst (.tuple #[.int .i64 ((upN (np) (F.code.size) : Nat) : Int), .bool (upB (np) (F.code.size))])), (some 6, Cst (.tuple #[.int .i64 ((upN (np) (F.code.size) : Nat) : Int), .bool (upB (np) (F.code.size))])), (some 14, Cst (.int .i64 ((upN (np) (F.code.size) : Nat) : Int))), (some 15, Cst (.bool (upB (np) (F.code.size)))), (some 4, Cst (.int .i64 ((upN (np) (F.code.size) : Nat) : Int))), (some 5, Cst (.bool (upB (np) (F.code.size))))] [] [] rfl (by rfl) ?_ ?_ ?_ S sv mv (h.below (Below.refl _ _).drew) (Kb.refl _ _).drew (fun j hj => Or.inl hj) [(3, .pointer (some ⟨bp, 0, none⟩)), (0, .pointer (some ⟨fb, 0, none⟩))] ?_ (by rfl) (by kernel_rfl) (by rfl) (by rfl) ?_ ?_ ?_ ?_ ?_ ?_
 ·refine List.all_eq_true.2 fun d hd => decide_eq_true ?_
  have hd2 : d ∈ ([7, 8, 9, 10, 11, 12, 13, 6, 14, 15, 4, 5] : List Nat) := hd
  simp at hd2
  omega
 ·intro i d T ht
  have hm := List.mem_of_getElem? ht
  simp only [List.mem_cons, List.not_mem_nil, or_false, Prod.mk.injEq] at hm
  rcases hm with ⟨_, rfl⟩ | ⟨_, rfl⟩ | ⟨_, rfl⟩ | ⟨_, rfl⟩ | ⟨_, rfl⟩ | ⟨_, rfl⟩ | ⟨_, rfl⟩ | ⟨_, rfl⟩ | ⟨_, rfl⟩ | ⟨_, rfl⟩ | ⟨_, rfl⟩ | ⟨_, rfl⟩ <;> first | exact cst_stable _ | exact plc_stable | exact pc_stable _ | exact ln_stable _ | exact pr_stable _ _ | exact any_stable | exact prA_stable _ _ | exact stk_stable _ | exact wat_stable _ | exact nv_stable
 ·exact fun hne => absurd rfl hne
 ·intro p hp
  simp only [List.mem_cons, List.not_mem_nil, or_false] at hp
  rcases hp with rfl | rfl
  ·exact c3
  ·exact c0
 ·intro b hb; cases hb
 ·intro i o d T ho ht hic hnb s x k S1 sv1 mv1 hfr hkb hb hdep hkp
  have hi : i < 12 := (Array.getElem?_eq_some_iff.1 ho).1
  rcases ltq12 hi with rfl | rfl | rfl | rfl | rfl | rfl | rfl | rfl | rfl | rfl | rfl | rfl
  ·obtain rfl := sj ho
   obtain ⟨rfl, rfl⟩ := pk ht
   exact ⟨want_none rfl, fun K hK => st_load 3 7 _ _ (hb (3, .pointer (some ⟨bp, 0, none⟩)) (List.Mem.head _)) (hkb.row hr3 hr3n) (hK _ x (Below.refl _ _) (fun h => by cases h) rfl)⟩
  ·obtain rfl := sj ho
   obtain ⟨rfl, rfl⟩ := pk ht
   exact ⟨want_none rfl, fun K hK => st_move 0 8 _ (hb (0, .pointer (some ⟨fb, 0, none⟩)) (List.Mem.tail _ (List.Mem.head _))) (hK _ x (Below.refl _ _) (fun h => by cases h) rfl)⟩
  ·obtain rfl := sj ho
   obtain ⟨rfl, rfl⟩ := pk ht
   exact ⟨want_none rfl, fun K hK => st_nil (hdep ⟨1, .data⟩ (by simp) rfl _ _ rfl) (hK _ x (Below.refl _ _) (fun h => by cases h) rfl)⟩
  ·obtain rfl := sj ho
   obtain ⟨rfl, rfl⟩ := pk ht
   exact ⟨want_none rfl, fun K hK => st_f_code (hdep ⟨2, .data⟩ (by simp) rfl _ _ rfl) (hK _ x (Below.refl _ _) (fun h => by cases h) rfl)⟩
  ·obtain rfl := sj ho
   obtain ⟨rfl, rfl⟩ := pk ht
   exact ⟨want_none rfl, fun K hK => by
    rcases hsame k with hbd | hsm
    ·exact absurd hfr.gal (Nat.not_le.2 hbd)
    ·have e := hsm.code
     exact st_load1 (v := .string F.code) (fun w => by kernel_rfl) (hdep ⟨3, .data⟩ (by simp) rfl _ _ rfl) ((hfr.row.cell (i := 1) (by decide)).trans (congrArg (fun z => some (Value.string z)) e)) (hK _ x (Below.refl _ _) (fun h => by cases h) rfl)⟩
  ·obtain rfl := sj ho
   obtain ⟨rfl, rfl⟩ := pk ht
   exact ⟨want_none rfl, fun K hK => st_lenS (hdep ⟨4, .data⟩ (by simp) rfl _ _ rfl) (hK _ x (Below.refl _ _) (fun h => by cases h) rfl)⟩
  ·obtain rfl := sj ho
   obtain ⟨rfl, rfl⟩ := pk ht
   exact ⟨want_none rfl, fun K hK => st_call own_upTo (ev2 (hdep ⟨0, .data⟩ (by simp) rfl _ _ rfl) (hdep ⟨5, .data⟩ (by simp) rfl _ _ rfl)) (upTo_any (np) (F.code.size) hup6 x) (fun e x' h9 => ⟨_, h9.1, hK _ x' h9.2 (fun h => by cases h) rfl⟩)⟩
  ·obtain rfl := sj ho
   obtain ⟨rfl, rfl⟩ := pk ht
   exact ⟨want_none rfl, fun K hK => st_move 13 6 _ (hdep ⟨6, .data⟩ (by simp) rfl _ _ rfl) (hK _ x (Below.refl _ _) (fun h => by cases h) rfl)⟩
  ·obtain rfl := sj ho
   obtain ⟨rfl, rfl⟩ := pk ht
   exact ⟨want_none rfl, fun K hK => st_ext0 6 14 _ _ (hdep ⟨7, .data⟩ (by simp) rfl _ _ rfl) (hK _ x (Below.refl _ _) (fun h => by cases h) rfl)⟩
  ·obtain rfl := sj ho
   obtain ⟨rfl, rfl⟩ := pk ht
   exact ⟨want_none rfl, fun K hK => st_ext1 6 15 _ _ (hdep ⟨7, .data⟩ (by simp) rfl _ _ rfl) (hK _ x (Below.refl _ _) (fun h => by cases h) rfl)⟩
  ·obtain rfl := sj ho
   obtain ⟨rfl, rfl⟩ := pk ht
   exact ⟨want_none rfl, fun K hK => st_assign 14 4 _ (hdep ⟨8, .data⟩ (by simp) rfl _ _ rfl) (hK _ x (Below.refl _ _) (fun h => by cases h) rfl)⟩
  ·obtain rfl := sj ho
   obtain ⟨rfl, rfl⟩ := pk ht
   exact ⟨want_none rfl, fun K hK => st_assign 15 5 _ (hdep ⟨9, .data⟩ (by simp) rfl _ _ rfl) (hK _ x (Below.refl _ _) (fun h => by cases h) rfl)⟩
 ·intro p i o d T hp ho ht s x S1 sv1 mv1 hfr hkb hsub hdf hb hdep
  cases hp
 ·intro b hb; cases hb
 ·intro b hb; cases hb
 ·intro vs x S1 sv1 mv1 hfr hkb hsub hl hT hB
  obtain ⟨v0, v1, v2, v3, v4, v5, v6, v7, v8, v9, v10, v11, rfl⟩ := lenq12 (hl : vs.length = 12)
  obtain rfl : v0 = wv (np) := hT 0 _ _ rfl
  obtain rfl : v1 = .pointer (some ⟨fb, 0, none⟩) := hT 1 _ _ rfl
  obtain rfl : v2 = .pointer (some ⟨fb, 0, none⟩) := hT 2 _ _ rfl
  obtain rfl : v3 = .pointer (some ⟨fb, 1, none⟩) := hT 3 _ _ rfl
  obtain rfl : v4 = .string F.code := hT 4 _ _ rfl
  obtain rfl : v5 = .int .i64 (F.code.size : Int) := hT 5 _ _ rfl
  obtain rfl : v6 = .tuple #[.int .i64 ((upN (np) (F.code.size) : Nat) : Int), .bool (upB (np) (F.code.size))] := hT 6 _ _ rfl
  obtain rfl : v7 = .tuple #[.int .i64 ((upN (np) (F.code.size) : Nat) : Int), .bool (upB (np) (F.code.size))] := hT 7 _ _ rfl
  obtain rfl : v8 = .int .i64 ((upN (np) (F.code.size) : Nat) : Int) := hT 8 _ _ rfl
  obtain rfl : v9 = .bool (upB (np) (F.code.size)) := hT 9 _ _ rfl
  obtain rfl : v10 = .int .i64 ((upN (np) (F.code.size) : Nat) : Int) := hT 10 _ _ rfl
  obtain rfl : v11 = .bool (upB (np) (F.code.size)) := hT 11 _ _ rfl
  exact hok x S1 sv1 mv1 hfr hkb hsub
end
section
open Go.RowKit
def jumpF (p : Nat) (F : FS) : Option (Unit × FS) := if upB p F.code.size && (jdL F.code).getD (p % M) false then some ((), { F with nx := p % M }) else none
set_option maxRecDepth 100000 in
set_option maxHeartbeats 4000000 in
theorem jump_I {base fb : Nat} {F : FS} {S : List Nat} {sv mv : Value} (p : Nat) (hcs : F.code.size ≤ 100000) (w : World) (h : Fr base fb F S sv mv w) :
  Calls Tryz.prog 270 #[.pointer (some ⟨fb, 0, none⟩), wv p] w (Out (jumpF p F) unitV base fb S w) := by
 have HB : Hid (F.code.size < 9223372036854775808) := by show _ < _; omega
 have hs := W1.start w p
 have HF := hid_of (h.below hs.be)
 have HN : Hid (w.heap.size ∉ S) := fun hm => by have := h.footlt _ hm; omega
 have HR := hid_of hs.ra
 have HBE := hid_of hs.be
 clear hs h
 unfold jumpF
 cases hu : upB p F.code.size with
 | false =>
  show Calls _ _ _ _ (Out none unitV base fb S w)
  have HU := hid_of hu
  clear hu
  go_enter Tryz.func270, Tryz.ntmps270
  go_wp2
  refine jump_r1 _ _ HR.out HN.out HB.out HF.out rfl rfl rfl (fun _ _ _ _ h => h.elim) ?_
  intro x S' sv' mv' hfr hkb hsub
  have HK := hid_of ((Kb.of_below (S := S) HBE.out).trans hkb (fun j hj => Or.inl hj))
  clear hfr hkb hsub
  rw [HU.out]
  simp only [fill, List.foldl_cons, List.foldl_nil, Act.put]
  go_wp2
  exact ⟨rfl, ⟨_, _, rfl⟩, HK.out⟩
 | true =>
  have HU := hid_of hu
  have hle : p % M ≤ F.code.size := of_decide_eq_true hu
  have hup : upN p F.code.size = p % M := if_pos hle
  clear hu
  obtain ⟨q, HQ⟩ : ∃ q : Nat, Hid (q = p % M) := ⟨_, rfl⟩
  rw [← HQ.out] at hle hup ⊢
  have HUP := hid_of hup
  clear hup
  cases hj : (jdL F.code).getD q false with
  | false =>
   show Calls _ _ _ _ (Out none unitV base fb S w)
   go_enter Tryz.func270, Tryz.ntmps270
   go_wp2
   refine jump_r1 _ _ HR.out HN.out HB.out HF.out rfl rfl rfl (fun _ _ _ _ h => h.elim) ?_
   intro x S' sv' mv' hfr hkb hsub
   have HK := hid_of ((Kb.of_below (S := S) HBE.out).trans hkb (fun j hj => Or.inl hj))
   obtain ⟨g, cap, e1, hrow⟩ := hfr.jr
   have hcj := hfr.row.cell (i := 2) (by decide)
   rw [show F.cell sv' mv' 2 = F.jd from rfl, e1] at hcj
   have hcb := hrow.cell (i := q) (by omega)
   rw [hj] at hcb
   clear hfr hkb hsub hrow e1 hj
   rw [HU.out, HUP.out]
   simp only [fill, List.foldl_cons, List.foldl_nil, Act.put]
   go_wp2
   exact ⟨rfl, ⟨_, _, rfl⟩, HK.out⟩
  | true =>
   show Calls _ _ _ _ (Out (some ((), { F with nx := q })) unitV base fb S w)
   go_enter Tryz.func270, Tryz.ntmps270
   go_wp2
   refine jump_r1 _ _ HR.out HN.out HB.out HF.out rfl rfl rfl (fun _ _ _ _ h => h.elim) ?_
   intro x S' sv' mv' hfr hkb hsub
   have HK := hid_of ((Kb.of_below (S := S) HBE.out).trans hkb (fun j hj => Or.inl hj))
   have HS : Hid (∀ k ∈ S', k ∈ S ∨ w.heap.size ≤ k) := fun k hk => (hsub k hk).imp id (fun h => Nat.le_trans HBE.out.size h)
   obtain ⟨g, cap, e1, hrow⟩ := hfr.jr
   have hcj := hfr.row.cell (i := 2) (by decide)
   rw [show F.cell sv' mv' 2 = F.jd from rfl, e1] at hcj
   have hcb := hrow.cell (i := q) (by omega)
   rw [hj] at hcb
   have hcn : x.cell? ⟨fb, 23, none⟩ = some (.int .i64 (F.nx : Int)) := hfr.row.cell (i := 23) (by decide)
   have hzn := hfr.row.frozen 23
   have HT := hid_of (To.pre HK.out HS.out (hfr.set1 23 _ (cell_nx F sv' mv' q) rfl rfl rfl rfl hfr.gal))
   clear hfr hkb hsub hrow e1 hj
   rw [HU.out, HUP.out]
   simp only [fill, List.foldl_cons, List.foldl_nil, Act.put]
   go_wp2
   go_end0
   exact ⟨rfl, HT.out⟩
end
section
open Go.RowKit
set_option maxRecDepth 100000 in
set_option maxHeartbeats 4000000 in
theorem store_r1 {base fb : Nat} {F : FS} {S : List Nat} {sv mv : Value} {Q : Exit → Act → World → Prop} (a : Act) (w : World) (h : Fr base fb F S sv mv w) (hsz : decide (15 < a.tmps.size) = true) (c0 : a.tmps.getD 0 undef = .pointer (some ⟨fb, 0, none⟩))
  (hpan : ∀ u pv s x, (popF (F) = none ∨ popF (nextF (popF (F))) = none) → s.defers = a.defers → Kb S w x → Q (.panic [{ v := .iface u pv, recovered := false }]) s x)
  (hok : ∀ (x : World) (S' : List Nat) (sv' mv' : Value) (b0 : Nat) (b1 : Nat), Fr base fb (nextF (popF (nextF (popF (F))))) S' sv' mv' x → Kb S w x → (∀ j ∈ S', j ∈ S ∨ w.heap.size ≤ j) → b0 ∉ S' → w.heap.size ≤ b0 → wrow x b0 (gotN (popF (F))) → b1 ∉ S' → w.heap.size ≤ b1 → wrow x b1 (gotN (popF (nextF (popF (F))))) → Q .normal (fill a [(8, .pointer (some ⟨fb, 0, none⟩)), (9, .pointer (some ⟨fb, 0, none⟩)), (10, .pointer (some ⟨fb, 19, none⟩)), (11, wv (gotN (popF (F)))), (12, .pointer (some ⟨fb, 0, none⟩)), (13, .pointer (some ⟨fb, 0, none⟩)), (14, .pointer (some ⟨fb, 19, none⟩)), (15, wv (gotN (popF (nextF (popF (F)))))), (4, .pointer (some ⟨b0, 0, none⟩)), (5, .pointer (some ⟨b1, 0, none⟩))]) x) :
  (Code.region 1 #[⟨some 8, .move (.tmp 0), 132, "instructions.go:100", #[], none⟩, ⟨some 9, .nilCheck (.tmp 8), 0, "instructions.go:100", #[⟨0, .data⟩], none⟩, ⟨some 10, .fieldAddr 137 (.tmp 9) 10, 0, "instructions.go:100", #[⟨1, .data⟩], none⟩, ⟨some 11, .call ⟨.value (.func 257), #[.tmp 10], #[135]⟩, 24, "instructions.go:100", #[⟨2, .data⟩], none⟩, ⟨some 12, .move (.tmp 0), 132, "instructions.go:100", #[], none⟩, ⟨some 13, .nilCheck (.tmp 12), 0, "instructions.go:100", #[⟨4, .data⟩], none⟩, ⟨some 14, .fieldAddr 137 (.tmp 13) 10, 0, "instructions.go:100", #[⟨5, .data⟩], none⟩, ⟨some 15, .call ⟨.value (.func 257), #[.tmp 14], #[135]⟩, 24, "instructions.go:100", #[⟨6, .data⟩, ⟨3, .chain⟩], none⟩, ⟨some 4, .alloc 24, 0, "instructions.go:100", #[], none⟩, ⟨some 5, .alloc 24, 0, "instructions.go:100", #[], none⟩, ⟨none, .store 24 (.tmp 4) (.tmp 11), 0, "instructions.go:100", #[⟨8, .data⟩, ⟨3, .data⟩, ⟨7, .chain⟩, ⟨0, .phase⟩, ⟨1, .phase⟩, ⟨2, .phase⟩, ⟨3, .phase⟩, { on := 4, ground := Ground.textOnly Departure.lateStores }, { on := 5, ground := Ground.textOnly Departure.lateStores }, { on := 6, ground := Ground.textOnly Departure.lateStores }, { on := 7, ground := Ground.textOnly Departure.lateStoresUnsure }, ⟨8, .phase⟩, ⟨9, .phase⟩], none⟩, ⟨none, .store 24 (.tmp 5) (.tmp 15), 0, "instructions.go:100", #[⟨9, .data⟩, ⟨7, .data⟩, ⟨10, .chain⟩, ⟨0, .phase⟩, ⟨1, .phase⟩, ⟨2, .phase⟩, ⟨3, .phase⟩, ⟨4, .phase⟩, ⟨5, .phase⟩, ⟨6, .phase⟩, ⟨7, .phase⟩, ⟨8, .phase⟩, ⟨9, .phase⟩, ⟨10, .phase⟩], none⟩] true).wp Tryz.prog Q a w := by
 have hsz := of_decide_eq_true hsz
 refine wp_region_fs (by kernel_rfl) (by kernel_rfl) base fb (fun k => match k with | 0 => F | 1 => nextF (popF (F)) | _ => nextF (popF (nextF (popF (F))))) S w h.hs [(some 8, Cst (.pointer (some ⟨fb, 0, none⟩))), (some 9, Cst (.pointer (some ⟨fb, 0, none⟩))), (some 10, Cst (.pointer (some ⟨fb, 19, none⟩))), (some 11, Cst (wv (gotN (popF (F))))), (some 12, Cst (.pointer (some ⟨fb, 0, none⟩))), (some 13, Cst (.pointer (some ⟨fb, 0, none⟩))), (some 14, Cst (.pointer (some ⟨fb, 19, none⟩))), (some 15, Cst (wv (gotN (popF (nextF (popF (F))))))), (some 4, Plc), (some 5, Plc), (none, Cst undef), (none, Cst undef)] [3, 7] [⟨8, 10, 4, gotN (popF (F))⟩, ⟨9, 11, 5, gotN (popF (nextF (popF (F))))⟩] rfl (by rfl) ?_ ?_ ?_ S sv mv (h.below (Below.refl _ _).drew) (Kb.refl _ _).drew (fun j hj => Or.inl hj) [(0, .pointer (some ⟨fb, 0, none⟩))] ?_ (by rfl) (by kernel_rfl) (by rfl) (by rfl) ?_ ?_ ?_ ?_ ?_ ?_
 ·refine List.all_eq_true.2 fun d hd => decide_eq_true ?_
  have hd2 : d ∈ ([8, 9, 10, 11, 12, 13, 14, 15, 4, 5] : List Nat) := hd
  simp at hd2
  omega
 ·intro i d T ht
  have hm := List.mem_of_getElem? ht
  simp only [List.mem_cons, List.not_mem_nil, or_false, Prod.mk.injEq] at hm
  rcases hm with ⟨_, rfl⟩ | ⟨_, rfl⟩ | ⟨_, rfl⟩ | ⟨_, rfl⟩ | ⟨_, rfl⟩ | ⟨_, rfl⟩ | ⟨_, rfl⟩ | ⟨_, rfl⟩ | ⟨_, rfl⟩ | ⟨_, rfl⟩ | ⟨_, rfl⟩ | ⟨_, rfl⟩ <;> first | exact cst_stable _ | exact plc_stable | exact pc_stable _ | exact ln_stable _ | exact pr_stable _ _ | exact any_stable | exact prA_stable _ _ | exact stk_stable _ | exact wat_stable _ | exact nv_stable
 ·intro _ i d T ht
  have hm := List.mem_of_getElem? ht
  simp only [List.mem_cons, List.not_mem_nil, or_false, Prod.mk.injEq] at hm
  rcases hm with ⟨_, rfl⟩ | ⟨_, rfl⟩ | ⟨_, rfl⟩ | ⟨_, rfl⟩ | ⟨_, rfl⟩ | ⟨_, rfl⟩ | ⟨_, rfl⟩ | ⟨_, rfl⟩ | ⟨_, rfl⟩ | ⟨_, rfl⟩ | ⟨_, rfl⟩ | ⟨_, rfl⟩ <;> first | exact cst_stableB _ | exact plc_stableB
 ·intro p hp
  simp only [List.mem_cons, List.not_mem_nil, or_false] at hp
  rcases hp with rfl
  ·exact c0
 ·intro b hb
  simp only [List.mem_cons, List.not_mem_nil, or_false] at hb
  rcases hb with rfl | rfl <;> exact ⟨rfl, rfl, by kernel_rfl⟩
 ·intro i o d T ho ht hic hnb s x k S1 sv1 mv1 hfr hkb hb hdep hkp
  have hi : i < 12 := (Array.getElem?_eq_some_iff.1 ho).1
  rcases ltq12 hi with rfl | rfl | rfl | rfl | rfl | rfl | rfl | rfl | rfl | rfl | rfl | rfl
  ·obtain rfl := sj ho
   obtain ⟨rfl, rfl⟩ := pk ht
   exact ⟨want_none rfl, fun K hK => st_move 0 8 _ (hb (0, .pointer (some ⟨fb, 0, none⟩)) (List.Mem.head _)) (hK _ x (Below.refl _ _) (fun h => by cases h) rfl)⟩
  ·obtain rfl := sj ho
   obtain ⟨rfl, rfl⟩ := pk ht
   exact ⟨want_none rfl, fun K hK => st_nil (hdep ⟨0, .data⟩ (by simp) rfl _ _ rfl) (hK _ x (Below.refl _ _) (fun h => by cases h) rfl)⟩
  ·obtain rfl := sj ho
   obtain ⟨rfl, rfl⟩ := pk ht
   exact ⟨want_none rfl, fun K hK => st_f_stack (hdep ⟨1, .data⟩ (by simp) rfl _ _ rfl) (hK _ x (Below.refl _ _) (fun h => by cases h) rfl)⟩
  ·exact absurd (by simp) hic
  ·obtain rfl := sj ho
   obtain ⟨rfl, rfl⟩ := pk ht
   exact ⟨want_none rfl, fun K hK => st_move 0 12 _ (hb (0, .pointer (some ⟨fb, 0, none⟩)) (List.Mem.head _)) (hK _ x (Below.refl _ _) (fun h => by cases h) rfl)⟩
  ·obtain rfl := sj ho
   obtain ⟨rfl, rfl⟩ := pk ht
   exact ⟨want_none rfl, fun K hK => st_nil (hdep ⟨4, .data⟩ (by simp) rfl _ _ rfl) (hK _ x (Below.refl _ _) (fun h => by cases h) rfl)⟩
  ·obtain rfl := sj ho
   obtain ⟨rfl, rfl⟩ := pk ht
   exact ⟨want_none rfl, fun K hK => st_f_stack (hdep ⟨5, .data⟩ (by simp) rfl _ _ rfl) (hK _ x (Below.refl _ _) (fun h => by cases h) rfl)⟩
  ·exact absurd (by simp) hic
  ·exact absurd rfl (hnb _ (List.Mem.head _)).1
  ·exact absurd rfl (hnb _ (List.Mem.tail _ (List.Mem.head _))).1
  ·exact absurd rfl (hnb _ (List.Mem.head _)).2
  ·exact absurd rfl (hnb _ (List.Mem.tail _ (List.Mem.head _))).2
 ·intro p i o d T hp ho ht s x S1 sv1 mv1 hfr hkb hsub hdf hb hdep
  match p, hp with
  | 0, hp =>
   obtain rfl := Option.some.inj (show some 3 = some i from hp)
   obtain rfl := sj ho
   obtain ⟨rfl, rfl⟩ := pk ht
   refine ⟨want_none rfl, fun K hK => st_out (r := popF (F)) (val := wv) own_pop (ev1 (hdep ⟨2, .data⟩ (by simp) rfl _ _ rfl)) (pop_I x hfr) (fun u pv x' hrn hk => hpan u pv s x' (Or.inl hrn) hdf (hkb.trans hk hsub)) (fun y F' S2 sv2 mv2 x' hr h1 h2 h3 => ?_)⟩
   refine hK _ S2 sv2 mv2 x' ?_ h2 h3 (fun h => by cases h) ?_
   ·show Fr base fb (nextF (popF (F))) S2 sv2 mv2 x'
    rw [hr]
    exact h1
   ·show _ = wv (gotN (popF (F)))
    first | rfl | (rw [hr]; rfl)
  | 1, hp =>
   obtain rfl := Option.some.inj (show some 7 = some i from hp)
   obtain rfl := sj ho
   obtain ⟨rfl, rfl⟩ := pk ht
   refine ⟨want_none rfl, fun K hK => st_out (r := popF (nextF (popF (F)))) (val := wv) own_pop (ev1 (hdep ⟨6, .data⟩ (by simp) rfl _ _ rfl)) (pop_I x hfr) (fun u pv x' hrn hk => hpan u pv s x' (Or.inr hrn) hdf (hkb.trans hk hsub)) (fun y F' S2 sv2 mv2 x' hr h1 h2 h3 => ?_)⟩
   refine hK _ S2 sv2 mv2 x' ?_ h2 h3 (fun h => by cases h) ?_
   ·show Fr base fb (nextF (popF (nextF (popF (F))))) S2 sv2 mv2 x'
    rw [hr]
    exact h1
   ·show _ = wv (gotN (popF (nextF (popF (F)))))
    first | rfl | (rw [hr]; rfl)
  | _ + 2, hp => cases hp
 ·intro b hb o ho s x
  simp only [List.mem_cons, List.not_mem_nil, or_false] at hb
  rcases hb with rfl | rfl
  ·obtain rfl := sj ho
   exact ⟨want_none rfl, fun K hK => st_allocw hK⟩
  ·obtain rfl := sj ho
   exact ⟨want_none rfl, fun K hK => st_allocw hK⟩
 ·intro b hb o ho s x bl f S1 c1 hsl hrow hdep
  simp only [List.mem_cons, List.not_mem_nil, or_false] at hb
  rcases hb with rfl | rfl
  ·obtain rfl := sj ho
   exact ⟨want_none rfl, fun K hK => st_storew (n := gotN (popF (F))) hsl (hdep ⟨3, .data⟩ (by simp) rfl _ _ rfl) hrow (fun x' hr2 e => by rw [e]; exact hK)⟩
  ·obtain rfl := sj ho
   exact ⟨want_none rfl, fun K hK => st_storew (n := gotN (popF (nextF (popF (F))))) hsl (hdep ⟨7, .data⟩ (by simp) rfl _ _ rfl) hrow (fun x' hr2 e => by rw [e]; exact hK)⟩
 ·intro vs x S1 sv1 mv1 hfr hkb hsub hl hT hB
  obtain ⟨v0, v1, v2, v3, v4, v5, v6, v7, v8, v9, v10, v11, rfl⟩ := lenq12 (hl : vs.length = 12)
  obtain rfl : v0 = .pointer (some ⟨fb, 0, none⟩) := hT 0 _ _ rfl
  obtain rfl : v1 = .pointer (some ⟨fb, 0, none⟩) := hT 1 _ _ rfl
  obtain rfl : v2 = .pointer (some ⟨fb, 19, none⟩) := hT 2 _ _ rfl
  obtain rfl : v3 = wv (gotN (popF (F))) := hT 3 _ _ rfl
  obtain rfl : v4 = .pointer (some ⟨fb, 0, none⟩) := hT 4 _ _ rfl
  obtain rfl : v5 = .pointer (some ⟨fb, 0, none⟩) := hT 5 _ _ rfl
  obtain rfl : v6 = .pointer (some ⟨fb, 19, none⟩) := hT 6 _ _ rfl
  obtain rfl : v7 = wv (gotN (popF (nextF (popF (F))))) := hT 7 _ _ rfl
  obtain ⟨b0, e8, n8, l8⟩ := (hT 8 _ _ rfl : Plc (2, mv1) S1 v8 x)
  subst e8
  obtain ⟨b1, e9, n9, l9⟩ := (hT 9 _ _ rfl : Plc (2, mv1) S1 v9 x)
  subst e9
  exact hok x S1 sv1 mv1 b0 b1 hfr hkb hsub n8 (hB _ (List.Mem.head _) _ rfl).1 (hB _ (List.Mem.head _) _ rfl).2 n9 (hB _ (List.Mem.tail _ (List.Mem.head _)) _ rfl).1 (hB _ (List.Mem.tail _ (List.Mem.head _)) _ rfl).2
end
section
open Go.RowKit
def storeByteF (F : FS) : Option (Unit × FS) :=
 thenF (popF F) (thenF (popF (nextF (popF F))) (thenF (reachF (top1 F) 1 (pop2 F)) (some ((), writeF (reachF (top1 F) 1 (pop2 F)) [lowB (top2 F)]))))
def jumpIfF (F : FS) : Option (Unit × FS) :=
 thenF (popF F) (thenF (popF (nextF (popF F))) (if top2 F % M = 0 then some ((), pop2 F) else jumpF (top1 F) (pop2 F)))
end
section
open Go.RowKit Go.Maps
set_option maxRecDepth 100000
section
variable {s : Act} {x : World} {pos : String} {af : Array Edge} {g : Option (Nat × Bool)} {K : Act → World → Prop} {Q : Exit → Act → World → Prop}
theorem st_build_cell {kd a key t0 t1 t2 d : Nat} {ty : TypeId} (e0 : s.tmps.getD t0 undef = .int .i64 (kd : Int)) (e1 : s.tmps.getD t1 undef = wv a) (e2 : s.tmps.getD t2 undef = wv key) (hK : K (s.put (some d) (cellV kd a key)) x) :
  Oper.wp Tryz.prog ⟨some d, .build 217 #[(0, .tmp t0), (1, .tmp t1), (2, .tmp t2)], ty, pos, af, g⟩ s x K Q := by
 have f0 : s.eval (.tmp t0) = .int .i64 (kd : Int) := e0
 have f1 : s.eval (.tmp t1) = wv a := e1
 have f2 : s.eval (.tmp t2) = wv key := e2
 have g0 : s.tmps[t0]?.getD undef = .int .i64 (kd : Int) := by rw [← Array.getD_eq_getD_getElem?]; exact e0
 have g1 : s.tmps[t1]?.getD undef = wv a := by rw [← Array.getD_eq_getD_getElem?]; exact e1
 have g2 : s.tmps[t2]?.getD undef = wv key := by rw [← Array.getD_eq_getD_getElem?]; exact e2
 go_simp
 exact hK
end
set_option maxHeartbeats 4000000 in
theorem load_r0 {base fb : Nat} {F : FS} {S : List Nat} {sv mv : Value} {Q : Exit → Act → World → Prop} (a : Act) (w : World) {tb kd r : Nat} {T : TS} {V : TV} (htr : Tr base tb T V w) (hptr : F.trail = .pointer (some ⟨tb, 0, none⟩)) (hdis : ∀ k ∈ S, ¬ Tfoot tb T V k) (hno : 0 ∉ S) (hget : ∀ x, Tr base tb T V x → Calls Tryz.prog 202 #[.pointer (some ⟨tb, 0, none⟩), cellV kd F.self (gotN (popF (F)))] x fun e w' => e = .returned (wv r) ∧ Below x.heap.size x w') (h : Fr base fb F S sv mv w) (hsz : decide (22 < a.tmps.size) = true) (c1 : a.tmps.getD 1 undef = .int .i64 (kd : Int)) (c0 : a.tmps.getD 0 undef = .pointer (some ⟨fb, 0, none⟩))
  (hpan : ∀ u pv s x, (popF (F) = none ∨ pushF (r) (nextF (popF (F))) = none) → s.defers = a.defers → Kb S w x → Q (.panic [{ v := .iface u pv, recovered := false }]) s x)
  (hok : ∀ (x : World) (S' : List Nat) (sv' mv' : Value), Fr base fb (nextF (pushF (r) (nextF (popF (F))))) S' sv' mv' x → Kb S w x → (∀ j ∈ S', j ∈ S ∨ w.heap.size ≤ j) → Q .normal (fill a [(4, .pointer (some ⟨fb, 0, none⟩)), (5, .pointer (some ⟨fb, 0, none⟩)), (6, .pointer (some ⟨fb, 19, none⟩)), (7, .pointer (some ⟨fb, 0, none⟩)), (8, .pointer (some ⟨fb, 0, none⟩)), (9, .pointer (some ⟨fb, 0, none⟩)), (10, F.trail), (11, .int .i64 (kd : Int)), (12, .pointer (some ⟨fb, 0, none⟩)), (13, .pointer (some ⟨fb, 0, none⟩)), (14, .pointer (some ⟨fb, 3, none⟩)), (15, wv (F.self)), (16, .pointer (some ⟨fb, 0, none⟩)), (17, .pointer (some ⟨fb, 0, none⟩)), (18, .pointer (some ⟨fb, 19, none⟩)), (19, wv (gotN (popF (F)))), (20, cellV kd F.self (gotN (popF (F)))), (21, wv (r)), (22, Value.tuple #[])]) x) :
  (Code.region 0 #[⟨some 4, .move (.tmp 0), 132, "instructions.go:95", #[], none⟩, ⟨some 5, .nilCheck (.tmp 4), 0, "instructions.go:95", #[⟨0, .data⟩], none⟩, ⟨some 6, .fieldAddr 137 (.tmp 5) 10, 0, "instructions.go:95", #[⟨1, .data⟩], none⟩, ⟨some 7, .move (.tmp 0), 132, "instructions.go:95", #[], none⟩, ⟨some 8, .nilCheck (.tmp 7), 0, "instructions.go:95", #[⟨3, .data⟩], none⟩, ⟨some 9, .fieldAddr 137 (.tmp 8) 0, 0, "instructions.go:95", #[⟨4, .data⟩], none⟩, ⟨some 10, .load 96 (.tmp 9), 96, "instructions.go:95", #[⟨5, .data⟩], none⟩, ⟨some 11, .move (.tmp 1), 215, "instructions.go:95", #[], none⟩, ⟨some 12, .move (.tmp 0), 132, "instructions.go:95", #[], none⟩, ⟨some 13, .nilCheck (.tmp 12), 0, "instructions.go:95", #[⟨8, .data⟩], none⟩, ⟨some 14, .fieldAddr 137 (.tmp 13) 3, 0, "instructions.go:95", #[⟨9, .data⟩], none⟩, ⟨some 15, .load 24 (.tmp 14), 24, "instructions.go:95", #[⟨10, .data⟩], none⟩, ⟨some 16, .move (.tmp 0), 132, "instructions.go:95", #[], none⟩, ⟨some 17, .nilCheck (.tmp 16), 0, "instructions.go:95", #[⟨12, .data⟩], none⟩, ⟨some 18, .fieldAddr 137 (.tmp 17) 10, 0, "instructions.go:95", #[⟨13, .data⟩], none⟩, ⟨some 19, .call ⟨.value (.func 257), #[.tmp 18], #[135]⟩, 24, "instructions.go:95", #[⟨14, .data⟩], none⟩, ⟨some 20, .build 217 #[(0, .tmp 11), (1, .tmp 15), (2, .tmp 19)], 217, "instructions.go:95", #[⟨7, .data⟩, ⟨11, .data⟩, ⟨15, .data⟩], none⟩, ⟨some 21, .call ⟨.value (.func 202), #[.tmp 10, .tmp 20], #[96, 217]⟩, 24, "instructions.go:95", #[⟨6, .data⟩, ⟨16, .data⟩, ⟨15, .chain⟩], none⟩, ⟨some 22, .call ⟨.value (.func 259), #[.tmp 6, .tmp 21], #[135, 24]⟩, 0, "instructions.go:95", #[⟨2, .data⟩, ⟨17, .data⟩, ⟨17, .chain⟩], none⟩] true).wp Tryz.prog Q a w := by
 have hsz := of_decide_eq_true hsz
 have hsame : ∀ k : Nat, 100000 < ((fun k => match k with | 0 => F | 1 => nextF (popF (F)) | _ => nextF (pushF (r) (nextF (popF (F))))) k).gas ∨ Same F ((fun k => match k with | 0 => F | 1 => nextF (popF (F)) | _ => nextF (pushF (r) (nextF (popF (F))))) k) := by
  intro k
  have s0 : 100000 < (F).gas ∨ Same F F := Or.inr (Same.refl F)
  have s1 : 100000 < (nextF (popF (F))).gas ∨ Same F (nextF (popF (F))) := same_pop s0
  have s2 : 100000 < (nextF (pushF (r) (nextF (popF (F))))).gas ∨ Same F (nextF (pushF (r) (nextF (popF (F))))) := same_push s1 _
  match k with
  | 0 => exact s0
  | 1 => exact s1
  | _ + 2 => exact s2
 refine wp_region_fs (by kernel_rfl) (by kernel_rfl) base fb (fun k => match k with | 0 => F | 1 => nextF (popF (F)) | _ => nextF (pushF (r) (nextF (popF (F))))) S w h.hs [(some 4, Cst (.pointer (some ⟨fb, 0, none⟩))), (some 5, Cst (.pointer (some ⟨fb, 0, none⟩))), (some 6, Cst (.pointer (some ⟨fb, 19, none⟩))), (some 7, Cst (.pointer (some ⟨fb, 0, none⟩))), (some 8, Cst (.pointer (some ⟨fb, 0, none⟩))), (some 9, Cst (.pointer (some ⟨fb, 0, none⟩))), (some 10, Cst (F.trail)), (some 11, Cst (.int .i64 (kd : Int))), (some 12, Cst (.pointer (some ⟨fb, 0, none⟩))), (some 13, Cst (.pointer (some ⟨fb, 0, none⟩))), (some 14, Cst (.pointer (some ⟨fb, 3, none⟩))), (some 15, Cst (wv (F.self))), (some 16, Cst (.pointer (some ⟨fb, 0, none⟩))), (some 17, Cst (.pointer (some ⟨fb, 0, none⟩))), (some 18, Cst (.pointer (some ⟨fb, 19, none⟩))), (some 19, Cst (wv (gotN (popF (F))))), (some 20, Cst (cellV kd F.self (gotN (popF (F))))), (some 21, Cst (wv (r))), (some 22, Cst (Value.tuple #[]))] [15, 18] [] rfl (by rfl) ?_ ?_ ?_ S sv mv (h.below (Below.refl _ _).drew) (Kb.refl _ _).drew (fun j hj => Or.inl hj) [(1, .int .i64 (kd : Int)), (0, .pointer (some ⟨fb, 0, none⟩))] ?_ (by rfl) (by kernel_rfl) (by rfl) (by rfl) ?_ ?_ ?_ ?_ ?_ ?_
 ·refine List.all_eq_true.2 fun d hd => decide_eq_true ?_
  have hd2 : d ∈ ([4, 5, 6, 7, 8, 9, 10, 11, 12, 13, 14, 15, 16, 17, 18, 19, 20, 21, 22] : List Nat) := hd
  simp at hd2
  omega
 ·intro i d T ht
  have hm := List.mem_of_getElem? ht
  simp only [List.mem_cons, List.not_mem_nil, or_false, Prod.mk.injEq] at hm
  rcases hm with ⟨_, rfl⟩ | ⟨_, rfl⟩ | ⟨_, rfl⟩ | ⟨_, rfl⟩ | ⟨_, rfl⟩ | ⟨_, rfl⟩ | ⟨_, rfl⟩ | ⟨_, rfl⟩ | ⟨_, rfl⟩ | ⟨_, rfl⟩ | ⟨_, rfl⟩ | ⟨_, rfl⟩ | ⟨_, rfl⟩ | ⟨_, rfl⟩ | ⟨_, rfl⟩ | ⟨_, rfl⟩ | ⟨_, rfl⟩ | ⟨_, rfl⟩ | ⟨_, rfl⟩ <;> first | exact cst_stable _ | exact plc_stable | exact pc_stable _ | exact ln_stable _ | exact pr_stable _ _ | exact any_stable | exact prA_stable _ _ | exact stk_stable _ | exact wat_stable _ | exact nv_stable
 ·exact fun hne => absurd rfl hne
 ·intro p hp
  simp only [List.mem_cons, List.not_mem_nil, or_false] at hp
  rcases hp with rfl | rfl
  ·exact c1
  ·exact c0
 ·intro b hb; cases hb
 ·intro i o d T ho ht hic hnb s x k S1 sv1 mv1 hfr hkb hb hdep hkp
  have hi : i < 19 := (Array.getElem?_eq_some_iff.1 ho).1
  rcases ltq19 hi with rfl | rfl | rfl | rfl | rfl | rfl | rfl | rfl | rfl | rfl | rfl | rfl | rfl | rfl | rfl | rfl | rfl | rfl | rfl
  ·obtain rfl := sj ho
   obtain ⟨rfl, rfl⟩ := pk ht
   exact ⟨want_none rfl, fun K hK => st_move 0 4 _ (hb (0, .pointer (some ⟨fb, 0, none⟩)) (List.Mem.tail _ (List.Mem.head _))) (hK _ x (Below.refl _ _) (fun h => by cases h) rfl)⟩
  ·obtain rfl := sj ho
   obtain ⟨rfl, rfl⟩ := pk ht
   exact ⟨want_none rfl, fun K hK => st_nil (hdep ⟨0, .data⟩ (by simp) rfl _ _ rfl) (hK _ x (Below.refl _ _) (fun h => by cases h) rfl)⟩
  ·obtain rfl := sj ho
   obtain ⟨rfl, rfl⟩ := pk ht
   exact ⟨want_none rfl, fun K hK => st_f_stack (hdep ⟨1, .data⟩ (by simp) rfl _ _ rfl) (hK _ x (Below.refl _ _) (fun h => by cases h) rfl)⟩
  ·obtain rfl := sj ho
   obtain ⟨rfl, rfl⟩ := pk ht
   exact ⟨want_none rfl, fun K hK => st_move 0 7 _ (hb (0, .pointer (some ⟨fb, 0, none⟩)) (List.Mem.tail _ (List.Mem.head _))) (hK _ x (Below.refl _ _) (fun h => by cases h) rfl)⟩
  ·obtain rfl := sj ho
   obtain ⟨rfl, rfl⟩ := pk ht
   exact ⟨want_none rfl, fun K hK => st_nil (hdep ⟨3, .data⟩ (by simp) rfl _ _ rfl) (hK _ x (Below.refl _ _) (fun h => by cases h) rfl)⟩
  ·obtain rfl := sj ho
   obtain ⟨rfl, rfl⟩ := pk ht
   exact ⟨want_none rfl, fun K hK => st_f_trail (hdep ⟨4, .data⟩ (by simp) rfl _ _ rfl) (hK _ x (Below.refl _ _) (fun h => by cases h) rfl)⟩
  ·obtain rfl := sj ho
   obtain ⟨rfl, rfl⟩ := pk ht
   exact ⟨want_none rfl, fun K hK => by
    rcases hsame k with hbd | hsm
    ·exact absurd hfr.gal (Nat.not_le.2 hbd)
    ·have e := hsm.trail
     exact st_load1 (v := F.trail) (fun w => by kernel_rfl) (hdep ⟨5, .data⟩ (by simp) rfl _ _ rfl) ((hfr.row.cell (i := 0) (by decide)).trans (congrArg (fun z => some z) e)) (hK _ x (Below.refl _ _) (fun h => by cases h) rfl)⟩
  ·obtain rfl := sj ho
   obtain ⟨rfl, rfl⟩ := pk ht
   exact ⟨want_none rfl, fun K hK => st_move 1 11 _ (hb (1, .int .i64 (kd : Int)) (List.Mem.head _)) (hK _ x (Below.refl _ _) (fun h => by cases h) rfl)⟩
  ·obtain rfl := sj ho
   obtain ⟨rfl, rfl⟩ := pk ht
   exact ⟨want_none rfl, fun K hK => st_move 0 12 _ (hb (0, .pointer (some ⟨fb, 0, none⟩)) (List.Mem.tail _ (List.Mem.head _))) (hK _ x (Below.refl _ _) (fun h => by cases h) rfl)⟩
  ·obtain rfl := sj ho
   obtain ⟨rfl, rfl⟩ := pk ht
   exact ⟨want_none rfl, fun K hK => st_nil (hdep ⟨8, .data⟩ (by simp) rfl _ _ rfl) (hK _ x (Below.refl _ _) (fun h => by cases h) rfl)⟩
  ·obtain rfl := sj ho
   obtain ⟨rfl, rfl⟩ := pk ht
   exact ⟨want_none rfl, fun K hK => st_f_self (hdep ⟨9, .data⟩ (by simp) rfl _ _ rfl) (hK _ x (Below.refl _ _) (fun h => by cases h) rfl)⟩
  ·obtain rfl := sj ho
   obtain ⟨rfl, rfl⟩ := pk ht
   exact ⟨want_none rfl, fun K hK => by
    rcases hsame k with hbd | hsm
    ·exact absurd hfr.gal (Nat.not_le.2 hbd)
    ·have e := hsm.self
     exact st_loadW (n := F.self) (hdep ⟨10, .data⟩ (by simp) rfl _ _ rfl) ((hfr.row.cell (i := 3) (by decide)).trans (congrArg (fun z => some (Value.int .u64 (limb z 0))) e)) ((hfr.row.cell (i := 4) (by decide)).trans (congrArg (fun z => some (Value.int .u64 (limb z 1))) e)) ((hfr.row.cell (i := 5) (by decide)).trans (congrArg (fun z => some (Value.int .u64 (limb z 2))) e)) ((hfr.row.cell (i := 6) (by decide)).trans (congrArg (fun z => some (Value.int .u64 (limb z 3))) e)) (hK _ x (Below.refl _ _) (fun h => by cases h) rfl)⟩
  ·obtain rfl := sj ho
   obtain ⟨rfl, rfl⟩ := pk ht
   exact ⟨want_none rfl, fun K hK => st_move 0 16 _ (hb (0, .pointer (some ⟨fb, 0, none⟩)) (List.Mem.tail _ (List.Mem.head _))) (hK _ x (Below.refl _ _) (fun h => by cases h) rfl)⟩
  ·obtain rfl := sj ho
   obtain ⟨rfl, rfl⟩ := pk ht
   exact ⟨want_none rfl, fun K hK => st_nil (hdep ⟨12, .data⟩ (by simp) rfl _ _ rfl) (hK _ x (Below.refl _ _) (fun h => by cases h) rfl)⟩
  ·obtain rfl := sj ho
   obtain ⟨rfl, rfl⟩ := pk ht
   exact ⟨want_none rfl, fun K hK => st_f_stack (hdep ⟨13, .data⟩ (by simp) rfl _ _ rfl) (hK _ x (Below.refl _ _) (fun h => by cases h) rfl)⟩
  ·exact absurd (by simp) hic
  ·obtain rfl := sj ho
   obtain ⟨rfl, rfl⟩ := pk ht
   exact ⟨want_none rfl, fun K hK => st_build_cell (hdep ⟨7, .data⟩ (by simp) rfl _ _ rfl) (hdep ⟨11, .data⟩ (by simp) rfl _ _ rfl) (hdep ⟨15, .data⟩ (by simp) rfl _ _ rfl) (hK _ x (Below.refl _ _) (fun h => by cases h) rfl)⟩
  ·obtain rfl := sj ho
   obtain ⟨rfl, rfl⟩ := pk ht
   exact ⟨want_none rfl, fun K hK => st_call own_get (ev2 (((hdep ⟨6, .data⟩ (by simp) rfl _ _ rfl)).trans hptr) (hdep ⟨16, .data⟩ (by simp) rfl _ _ rfl)) (hget x (htr.kb hkb hdis hno)) (fun e y h9 => ⟨_, h9.1, hK _ y h9.2 (fun h => by cases h) rfl⟩)⟩
  ·exact absurd (by simp) hic
 ·intro p i o d T hp ho ht s x S1 sv1 mv1 hfr hkb hsub hdf hb hdep
  match p, hp with
  | 0, hp =>
   obtain rfl := Option.some.inj (show some 15 = some i from hp)
   obtain rfl := sj ho
   obtain ⟨rfl, rfl⟩ := pk ht
   refine ⟨want_none rfl, fun K hK => st_out (r := popF (F)) (val := wv) own_pop (ev1 (hdep ⟨14, .data⟩ (by simp) rfl _ _ rfl)) (pop_I x hfr) (fun u pv x' hrn hk => hpan u pv s x' (Or.inl hrn) hdf (hkb.trans hk hsub)) (fun y F' S2 sv2 mv2 x' hr h1 h2 h3 => ?_)⟩
   refine hK _ S2 sv2 mv2 x' ?_ h2 h3 (fun h => by cases h) ?_
   ·show Fr base fb (nextF (popF (F))) S2 sv2 mv2 x'
    rw [hr]
    exact h1
   ·show _ = wv (gotN (popF (F)))
    first | rfl | (rw [hr]; rfl)
  | 1, hp =>
   obtain rfl := Option.some.inj (show some 18 = some i from hp)
   obtain rfl := sj ho
   obtain ⟨rfl, rfl⟩ := pk ht
   refine ⟨want_none rfl, fun K hK => st_out (r := pushF (r) (nextF (popF (F)))) (val := unitV) own_push (ev2 (hdep ⟨2, .data⟩ (by simp) rfl _ _ rfl) (hdep ⟨17, .data⟩ (by simp) rfl _ _ rfl)) (push_I (r) x hfr) (fun u pv x' hrn hk => hpan u pv s x' (Or.inr hrn) hdf (hkb.trans hk hsub)) (fun y F' S2 sv2 mv2 x' hr h1 h2 h3 => ?_)⟩
   refine hK _ S2 sv2 mv2 x' ?_ h2 h3 (fun h => by cases h) ?_
   ·show Fr base fb (nextF (pushF (r) (nextF (popF (F))))) S2 sv2 mv2 x'
    rw [hr]
    exact h1
   ·show _ = Value.tuple #[]
    first | rfl | (rw [hr]; rfl)
  | _ + 2, hp => cases hp
 ·intro b hb; cases hb
 ·intro b hb; cases hb
 ·intro vs x S1 sv1 mv1 hfr hkb hsub hl hT hB
  obtain ⟨v0, v1, v2, v3, v4, v5, v6, v7, v8, v9, v10, v11, v12, v13, v14, v15, v16, v17, v18, rfl⟩ := lenq19 (hl : vs.length = 19)
  obtain rfl : v0 = .pointer (some ⟨fb, 0, none⟩) := hT 0 _ _ rfl
  obtain rfl : v1 = .pointer (some ⟨fb, 0, none⟩) := hT 1 _ _ rfl
  obtain rfl : v2 = .pointer (some ⟨fb, 19, none⟩) := hT 2 _ _ rfl
  obtain rfl : v3 = .pointer (some ⟨fb, 0, none⟩) := hT 3 _ _ rfl
  obtain rfl : v4 = .pointer (some ⟨fb, 0, none⟩) := hT 4 _ _ rfl
  obtain rfl : v5 = .pointer (some ⟨fb, 0, none⟩) := hT 5 _ _ rfl
  obtain rfl : v6 = F.trail := hT 6 _ _ rfl
  obtain rfl : v7 = .int .i64 (kd : Int) := hT 7 _ _ rfl
  obtain rfl : v8 = .pointer (some ⟨fb, 0, none⟩) := hT 8 _ _ rfl
  obtain rfl : v9 = .pointer (some ⟨fb, 0, none⟩) := hT 9 _ _ rfl
  obtain rfl : v10 = .pointer (some ⟨fb, 3, none⟩) := hT 10 _ _ rfl
  obtain rfl : v11 = wv (F.self) := hT 11 _ _ rfl
  obtain rfl : v12 = .pointer (some ⟨fb, 0, none⟩) := hT 12 _ _ rfl
  obtain rfl : v13 = .pointer (some ⟨fb, 0, none⟩) := hT 13 _ _ rfl
  obtain rfl : v14 = .pointer (some ⟨fb, 19, none⟩) := hT 14 _ _ rfl
  obtain rfl : v15 = wv (gotN (popF (F))) := hT 15 _ _ rfl
  obtain rfl : v16 = cellV kd F.self (gotN (popF (F))) := hT 16 _ _ rfl
  obtain rfl : v17 = wv (r) := hT 17 _ _ rfl
  obtain rfl : v18 = Value.tuple #[] := hT 18 _ _ rfl
  exact hok x S1 sv1 mv1 hfr hkb hsub
end
section
open Go.RowKit Go.Maps
set_option maxRecDepth 100000
def PhO (R : World → Prop) (w : World) : Nat → World → Prop
 | 0, x => Below w.heap.size w x
 | _, x => R x
theorem pho_low {R : World → Prop} {w x : World} {k : Nat} (h : PhO R w k x) (hk : k ≤ 0) : Below w.heap.size w x := by
 match k, hk, h with
 | 0, _, h => exact h
section
variable {fb tb kd self key v bk bv : Nat} {R : World → Prop} {s : Act} {x : World} {K : Act → World → Prop} {Q : Exit → Act → World → Prop} {ty1 : TypeId} {po1 : String} {af1 : Array Edge} {gd1 : Option (Nat × Bool)}
theorem store_r2_o0 (e0 : s.tmps.getD 0 undef = .pointer (some ⟨fb, 0, none⟩))  (hK : K (s.put (some 16) (.pointer (some ⟨fb, 0, none⟩))) x) :
  Oper.wp Tryz.prog ⟨some 16, .move (.tmp 0), ty1, po1, af1, gd1⟩ s x K Q := by
 have f0 : s.eval (.tmp 0) = _ := e0
 go_simp
 exact hK
theorem store_r2_o1 (e16 : s.tmps.getD 16 undef = .pointer (some ⟨fb, 0, none⟩))  (hK : K (s.put (some 17) (.pointer (some ⟨fb, 0, none⟩))) x) :
  Oper.wp Tryz.prog ⟨some 17, .nilCheck (.tmp 16), ty1, po1, af1, gd1⟩ s x K Q := by
 have f16 : s.eval (.tmp 16) = _ := e16
 go_simp
 exact hK
theorem store_r2_o2 (e17 : s.tmps.getD 17 undef = .pointer (some ⟨fb, 0, none⟩))  (hK : K (s.put (some 18) (.pointer (some ⟨fb, 0, none⟩))) x) :
  Oper.wp Tryz.prog ⟨some 18, .fieldAddr 137 (.tmp 17) 0, ty1, po1, af1, gd1⟩ s x K Q := by
 have f17 : s.eval (.tmp 17) = _ := e17
 go_simp
 exact hK
theorem store_r2_o3 (e18 : s.tmps.getD 18 undef = .pointer (some ⟨fb, 0, none⟩)) (k0 : x.cell? ⟨fb, 0, none⟩ = some (.pointer (some ⟨tb, 0, none⟩))) (hK : K (s.put (some 19) (.pointer (some ⟨tb, 0, none⟩))) x) :
  Oper.wp Tryz.prog ⟨some 19, .load 96 (.tmp 18), ty1, po1, af1, gd1⟩ s x K Q := by
 have f18 : s.eval (.tmp 18) = _ := e18
 go_simp
 exact hK
theorem store_r2_o4 (e1 : s.tmps.getD 1 undef = .int .i64 (kd : Int))  (hK : K (s.put (some 20) (.int .i64 (kd : Int))) x) :
  Oper.wp Tryz.prog ⟨some 20, .move (.tmp 1), ty1, po1, af1, gd1⟩ s x K Q := by
 have f1 : s.eval (.tmp 1) = _ := e1
 go_simp
 exact hK
theorem store_r2_o5 (e0 : s.tmps.getD 0 undef = .pointer (some ⟨fb, 0, none⟩))  (hK : K (s.put (some 21) (.pointer (some ⟨fb, 0, none⟩))) x) :
  Oper.wp Tryz.prog ⟨some 21, .move (.tmp 0), ty1, po1, af1, gd1⟩ s x K Q := by
 have f0 : s.eval (.tmp 0) = _ := e0
 go_simp
 exact hK
theorem store_r2_o6 (e21 : s.tmps.getD 21 undef = .pointer (some ⟨fb, 0, none⟩))  (hK : K (s.put (some 22) (.pointer (some ⟨fb, 0, none⟩))) x) :
  Oper.wp Tryz.prog ⟨some 22, .nilCheck (.tmp 21), ty1, po1, af1, gd1⟩ s x K Q := by
 have f21 : s.eval (.tmp 21) = _ := e21
 go_simp
 exact hK
theorem store_r2_o7 (e22 : s.tmps.getD 22 undef = .pointer (some ⟨fb, 0, none⟩))  (hK : K (s.put (some 23) (.pointer (some ⟨fb, 3, none⟩))) x) :
  Oper.wp Tryz.prog ⟨some 23, .fieldAddr 137 (.tmp 22) 3, ty1, po1, af1, gd1⟩ s x K Q := by
 have f22 : s.eval (.tmp 22) = _ := e22
 go_simp
 exact hK
theorem store_r2_o8 (e23 : s.tmps.getD 23 undef = .pointer (some ⟨fb, 3, none⟩)) (y0 : x.cell? ⟨fb, 3, none⟩ = some (.int .u64 (limb self 0))) (y1 : x.cell? ⟨fb, 4, none⟩ = some (.int .u64 (limb self 1))) (y2 : x.cell? ⟨fb, 5, none⟩ = some (.int .u64 (limb self 2))) (y3 : x.cell? ⟨fb, 6, none⟩ = some (.int .u64 (limb self 3))) (hK : K (s.put (some 24) (.agg #[.int .u64 (limb self 0), .int .u64 (limb self 1), .int .u64 (limb self 2), .int .u64 (limb self 3)])) x) :
  Oper.wp Tryz.prog ⟨some 24, .load 24 (.tmp 23), ty1, po1, af1, gd1⟩ s x K Q := by
 have f23 : s.eval (.tmp 23) = _ := e23
 go_simp
 exact hK
theorem store_r2_o9 (e4 : s.tmps.getD 4 undef = .pointer (some ⟨bk, 0, none⟩)) (y0 : x.cell? ⟨bk, 0, none⟩ = some (.int .u64 (limb key 0))) (y1 : x.cell? ⟨bk, 1, none⟩ = some (.int .u64 (limb key 1))) (y2 : x.cell? ⟨bk, 2, none⟩ = some (.int .u64 (limb key 2))) (y3 : x.cell? ⟨bk, 3, none⟩ = some (.int .u64 (limb key 3))) (hK : K (s.put (some 25) (.agg #[.int .u64 (limb key 0), .int .u64 (limb key 1), .int .u64 (limb key 2), .int .u64 (limb key 3)])) x) :
  Oper.wp Tryz.prog ⟨some 25, .load 24 (.tmp 4), ty1, po1, af1, gd1⟩ s x K Q := by
 have f4 : s.eval (.tmp 4) = _ := e4
 go_simp
 exact hK
theorem store_r2_o10 (e20 : s.tmps.getD 20 undef = .int .i64 (kd : Int)) (e24 : s.tmps.getD 24 undef = .agg #[.int .u64 (limb self 0), .int .u64 (limb self 1), .int .u64 (limb self 2), .int .u64 (limb self 3)]) (e25 : s.tmps.getD 25 undef = .agg #[.int .u64 (limb key 0), .int .u64 (limb key 1), .int .u64 (limb key 2), .int .u64 (limb key 3)])  (hK : K (s.put (some 26) (.agg #[.int .i64 (kd : Int), .int .u64 (limb self 0), .int .u64 (limb self 1), .int .u64 (limb self 2), .int .u64 (limb self 3), .int .u64 (limb key 0), .int .u64 (limb key 1), .int .u64 (limb key 2), .int .u64 (limb key 3)])) x) :
  Oper.wp Tryz.prog ⟨some 26, .build 217 #[(0, .tmp 20), (1, .tmp 24), (2, .tmp 25)], ty1, po1, af1, gd1⟩ s x K Q := by
 have f20 : s.eval (.tmp 20) = _ := e20
 have g20 : s.tmps[20]?.getD undef = .int .i64 (kd : Int) := by rw [← Array.getD_eq_getD_getElem?]; exact e20
 have f24 : s.eval (.tmp 24) = _ := e24
 have g24 : s.tmps[24]?.getD undef = .agg #[.int .u64 (limb self 0), .int .u64 (limb self 1), .int .u64 (limb self 2), .int .u64 (limb self 3)] := by rw [← Array.getD_eq_getD_getElem?]; exact e24
 have f25 : s.eval (.tmp 25) = _ := e25
 have g25 : s.tmps[25]?.getD undef = .agg #[.int .u64 (limb key 0), .int .u64 (limb key 1), .int .u64 (limb key 2), .int .u64 (limb key 3)] := by rw [← Array.getD_eq_getD_getElem?]; exact e25
 go_simp
 exact hK
theorem store_r2_o11 (e5 : s.tmps.getD 5 undef = .pointer (some ⟨bv, 0, none⟩)) (y0 : x.cell? ⟨bv, 0, none⟩ = some (.int .u64 (limb v 0))) (y1 : x.cell? ⟨bv, 1, none⟩ = some (.int .u64 (limb v 1))) (y2 : x.cell? ⟨bv, 2, none⟩ = some (.int .u64 (limb v 2))) (y3 : x.cell? ⟨bv, 3, none⟩ = some (.int .u64 (limb v 3))) (hK : K (s.put (some 27) (.agg #[.int .u64 (limb v 0), .int .u64 (limb v 1), .int .u64 (limb v 2), .int .u64 (limb v 3)])) x) :
  Oper.wp Tryz.prog ⟨some 27, .load 24 (.tmp 5), ty1, po1, af1, gd1⟩ s x K Q := by
 have f5 : s.eval (.tmp 5) = _ := e5
 go_simp
 exact hK
set_option maxHeartbeats 4000000 in
theorem store_r2 {fb tb kd self key v bk bv : Nat} {R : World → Prop} {Q : Exit → Act → World → Prop} (a : Act) (w : World) (rk : wrow w bk key) (rv : wrow w bv v) (hlt : fb < w.heap.size) (htp : w.cell? ⟨fb, 0, none⟩ = some (.pointer (some ⟨tb, 0, none⟩))) (hself : ∀ x, Below w.heap.size w x → x.cell? ⟨fb, 3, none⟩ = some (.int .u64 (limb self 0)) ∧ x.cell? ⟨fb, 4, none⟩ = some (.int .u64 (limb self 1)) ∧ x.cell? ⟨fb, 5, none⟩ = some (.int .u64 (limb self 2)) ∧ x.cell? ⟨fb, 6, none⟩ = some (.int .u64 (limb self 3))) (hset : ∀ x, Below w.heap.size w x → Calls Tryz.prog 154 #[.pointer (some ⟨tb, 0, none⟩), .agg #[.int .i64 (kd : Int), .int .u64 (limb self 0), .int .u64 (limb self 1), .int .u64 (limb self 2), .int .u64 (limb self 3), .int .u64 (limb key 0), .int .u64 (limb key 1), .int .u64 (limb key 2), .int .u64 (limb key 3)], .agg #[.int .u64 (limb v 0), .int .u64 (limb v 1), .int .u64 (limb v 2), .int .u64 (limb v 3)]] x fun e w' => e = .returned (.tuple #[]) ∧ R w') (h0 : Below w.heap.size w w.drew) (hsz : decide (28 < a.tmps.size) = true) (c0 : a.tmps.getD 0 undef = .pointer (some ⟨fb, 0, none⟩)) (c1 : a.tmps.getD 1 undef = .int .i64 (kd : Int)) (c4 : a.tmps.getD 4 undef = .pointer (some ⟨bk, 0, none⟩)) (c5 : a.tmps.getD 5 undef = .pointer (some ⟨bv, 0, none⟩))
  (hok : ∀ (x : World), (PhO R w) 1 x → Q .normal (fill a [(16, .pointer (some ⟨fb, 0, none⟩)), (17, .pointer (some ⟨fb, 0, none⟩)), (18, .pointer (some ⟨fb, 0, none⟩)), (19, .pointer (some ⟨tb, 0, none⟩)), (20, .int .i64 (kd : Int)), (21, .pointer (some ⟨fb, 0, none⟩)), (22, .pointer (some ⟨fb, 0, none⟩)), (23, .pointer (some ⟨fb, 3, none⟩)), (24, .agg #[.int .u64 (limb self 0), .int .u64 (limb self 1), .int .u64 (limb self 2), .int .u64 (limb self 3)]), (25, .agg #[.int .u64 (limb key 0), .int .u64 (limb key 1), .int .u64 (limb key 2), .int .u64 (limb key 3)]), (26, .agg #[.int .i64 (kd : Int), .int .u64 (limb self 0), .int .u64 (limb self 1), .int .u64 (limb self 2), .int .u64 (limb self 3), .int .u64 (limb key 0), .int .u64 (limb key 1), .int .u64 (limb key 2), .int .u64 (limb key 3)]), (27, .agg #[.int .u64 (limb v 0), .int .u64 (limb v 1), .int .u64 (limb v 2), .int .u64 (limb v 3)]), (28, Value.tuple #[])]) x) :
  (Code.region 2 #[⟨some 16, .move (.tmp 0), 132, "instructions.go:101", #[], none⟩, ⟨some 17, .nilCheck (.tmp 16), 0, "instructions.go:101", #[⟨0, .data⟩], none⟩, ⟨some 18, .fieldAddr 137 (.tmp 17) 0, 0, "instructions.go:101", #[⟨1, .data⟩], none⟩, ⟨some 19, .load 96 (.tmp 18), 96, "instructions.go:101", #[⟨2, .data⟩], none⟩, ⟨some 20, .move (.tmp 1), 215, "instructions.go:101", #[], none⟩, ⟨some 21, .move (.tmp 0), 132, "instructions.go:101", #[], none⟩, ⟨some 22, .nilCheck (.tmp 21), 0, "instructions.go:101", #[⟨5, .data⟩], none⟩, ⟨some 23, .fieldAddr 137 (.tmp 22) 3, 0, "instructions.go:101", #[⟨6, .data⟩], none⟩, ⟨some 24, .load 24 (.tmp 23), 24, "instructions.go:101", #[⟨7, .data⟩], none⟩, ⟨some 25, .load 24 (.tmp 4), 24, "instructions.go:101", #[], none⟩, ⟨some 26, .build 217 #[(0, .tmp 20), (1, .tmp 24), (2, .tmp 25)], 217, "instructions.go:101", #[⟨4, .data⟩, ⟨8, .data⟩, ⟨9, .data⟩], none⟩, ⟨some 27, .load 24 (.tmp 5), 24, "instructions.go:101", #[], none⟩, ⟨some 28, .call ⟨.value (.func 154), #[.tmp 19, .tmp 26, .tmp 27], #[96, 217, 24]⟩, 0, "instructions.go:101", #[⟨3, .data⟩, ⟨10, .data⟩, ⟨11, .data⟩], none⟩] true).wp Tryz.prog Q a w := by
 have hsz := of_decide_eq_true hsz
 refine wp_region_ph (by kernel_rfl) (by kernel_rfl) (PhO R w) (fun _ _ _ => True) [(some 16, Cp (.pointer (some ⟨fb, 0, none⟩))), (some 17, Cp (.pointer (some ⟨fb, 0, none⟩))), (some 18, Cp (.pointer (some ⟨fb, 0, none⟩))), (some 19, Cp (.pointer (some ⟨tb, 0, none⟩))), (some 20, Cp (.int .i64 (kd : Int))), (some 21, Cp (.pointer (some ⟨fb, 0, none⟩))), (some 22, Cp (.pointer (some ⟨fb, 0, none⟩))), (some 23, Cp (.pointer (some ⟨fb, 3, none⟩))), (some 24, Cp (.agg #[.int .u64 (limb self 0), .int .u64 (limb self 1), .int .u64 (limb self 2), .int .u64 (limb self 3)])), (some 25, Cp (.agg #[.int .u64 (limb key 0), .int .u64 (limb key 1), .int .u64 (limb key 2), .int .u64 (limb key 3)])), (some 26, Cp (.agg #[.int .i64 (kd : Int), .int .u64 (limb self 0), .int .u64 (limb self 1), .int .u64 (limb self 2), .int .u64 (limb self 3), .int .u64 (limb key 0), .int .u64 (limb key 1), .int .u64 (limb key 2), .int .u64 (limb key 3)])), (some 27, Cp (.agg #[.int .u64 (limb v 0), .int .u64 (limb v 1), .int .u64 (limb v 2), .int .u64 (limb v 3)])), (some 28, Cp (Value.tuple #[]))] [12] rfl (by rfl) ?_ ?_ [(0, .pointer (some ⟨fb, 0, none⟩)), (1, .int .i64 (kd : Int)), (4, .pointer (some ⟨bk, 0, none⟩)), (5, .pointer (some ⟨bv, 0, none⟩))] ?_ (by rfl) (by kernel_rfl) (by rfl) (by rfl) ?_ ?_ ?_ ?_
 ·refine List.all_eq_true.2 fun d hd => decide_eq_true ?_
  have hd2 : d ∈ ([16, 17, 18, 19, 20, 21, 22, 23, 24, 25, 26, 27, 28] : List Nat) := hd
  simp at hd2
  omega
 ·exact h0
 ·intro p hp
  simp only [List.mem_cons, List.not_mem_nil, or_false] at hp
  rcases hp with rfl | rfl | rfl | rfl
  ·exact c0
  ·exact c1
  ·exact c4
  ·exact c5
 ·intro j d T hj p v x x' hne hpl hph hrel ht
  have hjl : j < 13 := (List.getElem?_eq_some_iff.1 hj).1
  rcases ltq13 hjl with rfl | rfl | rfl | rfl | rfl | rfl | rfl | rfl | rfl | rfl | rfl | rfl | rfl
  ·obtain ⟨rfl, rfl⟩ := pk hj
   exact ht
  ·obtain ⟨rfl, rfl⟩ := pk hj
   exact ht
  ·obtain ⟨rfl, rfl⟩ := pk hj
   exact ht
  ·obtain ⟨rfl, rfl⟩ := pk hj
   exact ht
  ·obtain ⟨rfl, rfl⟩ := pk hj
   exact ht
  ·obtain ⟨rfl, rfl⟩ := pk hj
   exact ht
  ·obtain ⟨rfl, rfl⟩ := pk hj
   exact ht
  ·obtain ⟨rfl, rfl⟩ := pk hj
   exact ht
  ·obtain ⟨rfl, rfl⟩ := pk hj
   exact ht
  ·obtain ⟨rfl, rfl⟩ := pk hj
   exact ht
  ·obtain ⟨rfl, rfl⟩ := pk hj
   exact ht
  ·obtain ⟨rfl, rfl⟩ := pk hj
   exact ht
  ·obtain ⟨rfl, rfl⟩ := pk hj
   exact ht
 ·intro i o d T ho ht hic k s x hk hlo hhi hph hdf hb hdep
  have hi : i < 13 := (Array.getElem?_eq_some_iff.1 ho).1
  rcases ltq13 hi with rfl | rfl | rfl | rfl | rfl | rfl | rfl | rfl | rfl | rfl | rfl | rfl | rfl
  ·obtain rfl := sj ho
   obtain ⟨rfl, rfl⟩ := pk ht
   refine ⟨want_none rfl, fun K hK => ?_⟩
   exact store_r2_o0 (hb (0, .pointer (some ⟨fb, 0, none⟩)) (List.Mem.head _))  (hK _ nn1 rfl)
  ·obtain rfl := sj ho
   obtain ⟨rfl, rfl⟩ := pk ht
   refine ⟨want_none rfl, fun K hK => ?_⟩
   exact store_r2_o1 (hdep ⟨0, .data⟩ (by simp) rfl _ _ rfl)  (hK _ nn1 rfl)
  ·obtain rfl := sj ho
   obtain ⟨rfl, rfl⟩ := pk ht
   refine ⟨want_none rfl, fun K hK => ?_⟩
   exact store_r2_o2 (hdep ⟨1, .data⟩ (by simp) rfl _ _ rfl)  (hK _ nn1 rfl)
  ·obtain rfl := sj ho
   obtain ⟨rfl, rfl⟩ := pk ht
   refine ⟨want_none rfl, fun K hK => ?_⟩
   have k0 : x.cell? ⟨fb, 0, none⟩ = some (.pointer (some ⟨tb, 0, none⟩)) := ((pho_low hph (by have := hhi 0 12 rfl (by kernel_rfl); omega)).cell hlt).trans htp
   exact store_r2_o3 (hdep ⟨2, .data⟩ (by simp) rfl _ _ rfl) k0 (hK _ nn1 rfl)
  ·obtain rfl := sj ho
   obtain ⟨rfl, rfl⟩ := pk ht
   refine ⟨want_none rfl, fun K hK => ?_⟩
   exact store_r2_o4 (hb (1, .int .i64 (kd : Int)) (List.Mem.tail _ (List.Mem.head _)))  (hK _ nn1 rfl)
  ·obtain rfl := sj ho
   obtain ⟨rfl, rfl⟩ := pk ht
   refine ⟨want_none rfl, fun K hK => ?_⟩
   exact store_r2_o5 (hb (0, .pointer (some ⟨fb, 0, none⟩)) (List.Mem.head _))  (hK _ nn1 rfl)
  ·obtain rfl := sj ho
   obtain ⟨rfl, rfl⟩ := pk ht
   refine ⟨want_none rfl, fun K hK => ?_⟩
   exact store_r2_o6 (hdep ⟨5, .data⟩ (by simp) rfl _ _ rfl)  (hK _ nn1 rfl)
  ·obtain rfl := sj ho
   obtain ⟨rfl, rfl⟩ := pk ht
   refine ⟨want_none rfl, fun K hK => ?_⟩
   exact store_r2_o7 (hdep ⟨6, .data⟩ (by simp) rfl _ _ rfl)  (hK _ nn1 rfl)
  ·obtain rfl := sj ho
   obtain ⟨rfl, rfl⟩ := pk ht
   refine ⟨want_none rfl, fun K hK => ?_⟩
   obtain ⟨y0, y1, y2, y3⟩ := hself x (pho_low hph (by have := hhi 0 12 rfl (by kernel_rfl); omega))
   exact store_r2_o8 (hdep ⟨7, .data⟩ (by simp) rfl _ _ rfl) y0 y1 y2 y3 (hK _ nn1 rfl)
  ·obtain rfl := sj ho
   obtain ⟨rfl, rfl⟩ := pk ht
   refine ⟨want_none rfl, fun K hK => ?_⟩
   obtain ⟨y0, y1, y2, y3⟩ := row_cells4 (row_below rk (pho_low hph (by have := hhi 0 12 rfl (by kernel_rfl); omega)))
   exact store_r2_o9 (hb (4, .pointer (some ⟨bk, 0, none⟩)) (List.Mem.tail _ (List.Mem.tail _ (List.Mem.head _)))) y0 y1 y2 y3 (hK _ nn1 rfl)
  ·obtain rfl := sj ho
   obtain ⟨rfl, rfl⟩ := pk ht
   refine ⟨want_none rfl, fun K hK => ?_⟩
   exact store_r2_o10 (hdep ⟨4, .data⟩ (by simp) rfl _ _ rfl) (hdep ⟨8, .data⟩ (by simp) rfl _ _ rfl) (hdep ⟨9, .data⟩ (by simp) rfl _ _ rfl)  (hK _ nn1 rfl)
  ·obtain rfl := sj ho
   obtain ⟨rfl, rfl⟩ := pk ht
   refine ⟨want_none rfl, fun K hK => ?_⟩
   obtain ⟨y0, y1, y2, y3⟩ := row_cells4 (row_below rv (pho_low hph (by have := hhi 0 12 rfl (by kernel_rfl); omega)))
   exact store_r2_o11 (hb (5, .pointer (some ⟨bv, 0, none⟩)) (List.Mem.tail _ (List.Mem.tail _ (List.Mem.tail _ (List.Mem.head _))))) y0 y1 y2 y3 (hK _ nn1 rfl)
  ·exact absurd (by simp) hic
 ·intro p i o d T hp ho ht s x hph hdf hb hdep
  have hpl : p < 1 := (List.getElem?_eq_some_iff.1 hp).1
  obtain rfl : p = 0 := by omega
  ·obtain rfl := sj hp
   obtain rfl := sj ho
   obtain ⟨rfl, rfl⟩ := pk ht
   refine ⟨want_none rfl, fun K hK => ?_⟩
   refine st_call own_tset (ev3 (hdep ⟨3, .data⟩ (by simp) rfl _ _ rfl) (hdep ⟨10, .data⟩ (by simp) rfl _ _ rfl) (hdep ⟨11, .data⟩ (by simp) rfl _ _ rfl)) (hset x hph) ?_
   rintro e y ⟨rfl, hR⟩
   exact ⟨_, rfl, hK _ y hR trivial nn1 rfl⟩
 ·intro vs x hph hl hT
  obtain ⟨v0, v1, v2, v3, v4, v5, v6, v7, v8, v9, v10, v11, v12, rfl⟩ := lenq13 hl
  obtain rfl : v0 = .pointer (some ⟨fb, 0, none⟩) := hT 0 _ _ rfl
  obtain rfl : v1 = .pointer (some ⟨fb, 0, none⟩) := hT 1 _ _ rfl
  obtain rfl : v2 = .pointer (some ⟨fb, 0, none⟩) := hT 2 _ _ rfl
  obtain rfl : v3 = .pointer (some ⟨tb, 0, none⟩) := hT 3 _ _ rfl
  obtain rfl : v4 = .int .i64 (kd : Int) := hT 4 _ _ rfl
  obtain rfl : v5 = .pointer (some ⟨fb, 0, none⟩) := hT 5 _ _ rfl
  obtain rfl : v6 = .pointer (some ⟨fb, 0, none⟩) := hT 6 _ _ rfl
  obtain rfl : v7 = .pointer (some ⟨fb, 3, none⟩) := hT 7 _ _ rfl
  obtain rfl : v8 = .agg #[.int .u64 (limb self 0), .int .u64 (limb self 1), .int .u64 (limb self 2), .int .u64 (limb self 3)] := hT 8 _ _ rfl
  obtain rfl : v9 = .agg #[.int .u64 (limb key 0), .int .u64 (limb key 1), .int .u64 (limb key 2), .int .u64 (limb key 3)] := hT 9 _ _ rfl
  obtain rfl : v10 = .agg #[.int .i64 (kd : Int), .int .u64 (limb self 0), .int .u64 (limb self 1), .int .u64 (limb self 2), .int .u64 (limb self 3), .int .u64 (limb key 0), .int .u64 (limb key 1), .int .u64 (limb key 2), .int .u64 (limb key 3)] := hT 10 _ _ rfl
  obtain rfl : v11 = .agg #[.int .u64 (limb v 0), .int .u64 (limb v 1), .int .u64 (limb v 2), .int .u64 (limb v 3)] := hT 11 _ _ rfl
  obtain rfl : v12 = Value.tuple #[] := hT 12 _ _ rfl
  exact hok x hph
end
end
section
open Go.RowKit Go.Maps
set_option maxRecDepth 100000
structure FT (base fb tb : Nat) (F : FS) (T : TS) (S : List Nat) (sv mv : Value) (V : TV) (w : World) : Prop where
 fr : Fr base fb F S sv mv w
 tr : Tr base tb T V w
 ptr : F.trail = .pointer (some ⟨tb, 0, none⟩)
 dis : ∀ k ∈ S, ¬ Tfoot tb T V k
def KF (S : List Nat) (tb : Nat) (T : TS) (V : TV) (w w' : World) : Prop := ∃ S2, Kb S2 w w' ∧ ∀ k ∈ S2, k ∈ S ∨ Tfoot tb T V k
def To2 (base fb tb : Nat) (F' : FS) (T : TS) (T' : TS) (V : TV) (S : List Nat) (m : Nat) (w w' : World) : Prop :=
 ∃ S' sv' mv' V', FT base fb tb F' T' S' sv' mv' V' w' ∧ KF S tb T V w w' ∧ (∀ k ∈ S', k ∈ S ∨ w.heap.size ≤ k) ∧ (∀ k, Tfoot tb T' V' k → Tfoot tb T V k ∨ w.heap.size ≤ k) ∧ V'.n ≤ V.n + m ∧ V'.ab = V.ab
def Out2 (r : Option (FS × TS)) (base fb tb : Nat) (T : TS) (V : TV) (S : List Nat) (m : Nat) (w : World) (e : Ending) (w' : World) : Prop :=
 match r with
 | some (F', T') => e = .returned (.tuple #[]) ∧ To2 base fb tb F' T T' V S m w w'
 | none => Pan e ∧ Kb S w w'
theorem FT.below {base fb tb : Nat} {F : FS} {T : TS} {S : List Nat} {sv mv : Value} {V : TV} {w w' : World} (h : FT base fb tb F T S sv mv V w) (hb : Below w.heap.size w w') : FT base fb tb F T S sv mv V w' := ⟨h.fr.below hb, h.tr.below hb, h.ptr, h.dis⟩
theorem FT.lift {base fb tb : Nat} {F F' : FS} {T : TS} {S : List Nat} {sv mv : Value} {V : TV} {w w' : World} (h : FT base fb tb F T S sv mv V w) (ht : F'.trail = F.trail) (hto : To base fb F' S w w') : To2 base fb tb F' T T V S 0 w w' := by
 obtain ⟨S', sv', mv', h1, h2, h3⟩ := hto
 refine ⟨S', sv', mv', V, ⟨h1, h.tr.kb h2 h.dis h.fr.no0, ht.trans h.ptr, fun k hk hf => ?_⟩, ⟨S, h2, fun k hk => Or.inl hk⟩, h3, fun k hk => Or.inl hk, Nat.le_refl _, rfl⟩
 rcases h3 k hk with e | e
 ·exact h.dis k e hf
 ·have := h.tr.lt hf; omega
theorem To2.comp {base fb tb m m' : Nat} {F2 : FS} {T T1 T2 : TS} {V V1 : TV} {S S1 : List Nat} {w w1 w2 : World} (hS : ∀ k ∈ S, k < w.heap.size) (hT : ∀ k, Tfoot tb T V k → k < w.heap.size) (h2 : KF S tb T V w w1) (h3 : ∀ k ∈ S1, k ∈ S ∨ w.heap.size ≤ k) (h4 : ∀ k, Tfoot tb T1 V1 k → Tfoot tb T V k ∨ w.heap.size ≤ k) (h5 : V1.n ≤ V.n + m) (h6 : V1.ab = V.ab) (k : To2 base fb tb F2 T1 T2 V1 S1 m' w1 w2) : To2 base fb tb F2 T T2 V S (m + m') w w2 := by
 obtain ⟨S2, sv2, mv2, V2, k1, ⟨Sk, k2, k2'⟩, k3, k4, k5, k6⟩ := k
 obtain ⟨Sh, h2, h2'⟩ := h2
 refine ⟨S2, sv2, mv2, V2, k1, ⟨Sh ++ Sk.filter (fun k => decide (k < w.heap.size)), (h2.mono (fun i hi => List.mem_append_left _ hi)).trans k2 (fun i hi => ?_), fun i hi => ?_⟩, fun i hi => ?_, fun i hi => ?_, by omega, k6.trans h6⟩
 ·by_cases hl : i < w.heap.size
  ·exact Or.inl (List.mem_append_right _ (List.mem_filter.2 ⟨hi, by simpa using hl⟩))
  ·exact Or.inr (by omega)
 ·rcases List.mem_append.1 hi with e | e
  ·exact h2' i e
  ·obtain ⟨e1, e2⟩ := List.mem_filter.1 e
   have e2 : i < w.heap.size := by simpa using e2
   rcases k2' i e1 with e3 | e3
   ·rcases h3 i e3 with e4 | e4
    ·exact Or.inl e4
    ·omega
   ·rcases h4 i e3 with e4 | e4
    ·exact Or.inr e4
    ·omega
 ·rcases k3 i hi with e | e
  ·exact h3 i e
  ·exact Or.inr (Nat.le_trans h2.size e)
 ·rcases k4 i hi with e | e
  ·exact h4 i e
  ·exact Or.inr (Nat.le_trans h2.size e)
def loadF (kd : Nat) (F : FS) (T : TS) : Option (Unit × FS) := thenF (popF F) (pushF (getT T kd F.self (gotN (popF F))) (nextF (popF F)))
set_option maxHeartbeats 4000000 in
theorem load_of {base fb tb : Nat} {F : FS} {T : TS} {S : List Nat} {sv mv : Value} {V : TV} (kd : Nat) (w : World) (h : FT base fb tb F T S sv mv V w)
  (hget : ∀ x, Tr base tb T V x → Calls Tryz.prog 202 #[.pointer (some ⟨tb, 0, none⟩), cellV kd F.self (gotN (popF F))] x fun e w' => e = .returned (wv (getT T kd F.self (gotN (popF F)))) ∧ Below x.heap.size x w') :
  Calls Tryz.prog 268 #[.pointer (some ⟨fb, 0, none⟩), .int .i64 (kd : Int)] w (Out (loadF kd F T) unitV base fb S w) := by
 go_enter Tryz.func268, Tryz.ntmps268
 go_wp2
 refine load_r0 _ _ h.tr h.ptr h.dis h.fr.no0 hget h.fr rfl rfl rfl ?_ ?_
 ·intro u pv s x hno hd hk
  have e : loadF kd F T = none := by
   rcases hno with e | e
   ·exact thenF_none (Or.inl e)
   ·exact thenF_none (Or.inr e)
  rw [e]
  exact ⟨hd, ⟨_, _, rfl⟩, hk⟩
 ·intro x S' sv' mv' hfr hkb hsub
  have e : loadF kd F T = _ := (thenF_ok fun e => no_bd (bd_push (bd_none e)) hfr).trans (unit_ok fun e => no_bd (bd_none e) hfr)
  have HO : Hid (Out (loadF kd F T) unitV base fb S w (.returned (.tuple #[])) x) := by
   rw [e]
   exact ⟨rfl, S', sv', mv', hfr, hkb, hsub⟩
  clear e hfr hkb hsub hget h
  simp only [fill, List.foldl_cons, List.foldl_nil, Act.put]
  go_wp2
  go_end0
  exact HO.out
end
section
open Go.RowKit Go.Maps
set_option maxHeartbeats 8000000
set_option maxRecDepth 100000
theorem Tr.no0 {base tb : Nat} {T : TS} {V : TV} {w : World} (h : Tr base tb T V w) : ¬ Tfoot tb T V 0 := by
 have hb1 := h.hb1
 rintro (e | e | e | e | e | ⟨t, ht, e⟩)
 ·have h1 := h.row.cell (i := 0) (by decide)
  rw [← e] at h1
  rw [h.zr.1.1] at h1
  cases h1
 ·exact zr_map_ne h.zr (h.acc.isMap e) rfl
 ·exact zr_map_ne h.zr (e ▸ h.pas.is) rfl
 ·have := (h.ch.lt 0 e).1; omega
 ·have := (h.lo.2.1.lt 0 e).1; omega
 ·obtain ⟨l, hl⟩ := h.lo.tv ht
  have := (hl.lt 0 e).1; omega
theorem tbT : (4 : Nat) ≠ 131 := by decide
theorem tbC : (4 : Nat) ≠ 220 := by decide
theorem tbL : (4 : Nat) ≠ 112 := by decide
theorem Tr.bno {base tb : Nat} {T : TS} {V : TV} {w : World} (h : Tr base tb T V w) {g N : Nat} {f : Nat → Value} (hr : w.rowIs g 4 N f) : ¬ Tfoot tb T V g := by
 rintro (e | e | e | e | e | ⟨t, ht, e⟩)
 ·exact row_row_ne hr h.row tbT e
 ·exact row_map_ne hr (h.acc.isMap e) rfl
 ·exact row_map_ne hr h.pas.is e
 ·exact row_own_ne hr h.ch tbC g e rfl
 ·exact row_own_ne hr h.lo.2.1 tbL g e rfl
 ·obtain ⟨l, hl⟩ := h.lo.tv ht
  exact row_own_ne hr hl tb1 g e rfl
theorem FT.trail {base fb tb m : Nat} {F : FS} {T T' : TS} {S : List Nat} {sv mv : Value} {V : TV} {w w' : World} (h : FT base fb tb F T S sv mv V w) (ht : TTo base tb T V T' m w w') : To2 base fb tb F T T' V S m w w' := by
 obtain ⟨V', S2, h1, h2, h3, h4, h5, h6⟩ := ht
 refine ⟨S, sv, mv, V', ⟨h.fr.kb h3 (fun k hk hm => h.dis k hk (h4 k hm)) (fun hm => h.tr.no0 (h4 0 hm)) (fun g N f hr hm => h.tr.bno hr (h4 g hm)), h1, h.ptr, fun k hk hf => ?_⟩, ⟨S2, h3, fun k hk => Or.inr (h4 k hk)⟩, fun k hk => Or.inl hk, h5, h2, h6⟩
 rcases h5 k hf with e | e
 ·exact h.dis k hk e
 ·have := h.fr.footlt k hk; omega
theorem FT.next {base fb tb : Nat} {F F' : FS} {T : TS} {S S' : List Nat} {sv mv sv' mv' : Value} {V : TV} {w w' : World} (h : FT base fb tb F T S sv mv V w) (ht : F'.trail = F.trail) (h1 : Fr base fb F' S' sv' mv' w') (h2 : Kb S w w') (h3 : ∀ k ∈ S', k ∈ S ∨ w.heap.size ≤ k) : FT base fb tb F' T S' sv' mv' V w' := by
 refine ⟨h1, h.tr.kb h2 h.dis h.fr.no0, ht.trans h.ptr, fun k hk hf => ?_⟩
 rcases h3 k hk with e | e
 ·exact h.dis k e hf
 ·have := h.tr.lt hf; omega
theorem FT.foot {base fb tb : Nat} {F : FS} {T : TS} {S : List Nat} {sv mv : Value} {V : TV} {w : World} (h : FT base fb tb F T S sv mv V w) : ∀ k ∈ S, k < w.heap.size := h.fr.footlt
theorem mayChange_I {base fb : Nat} {F : FS} {S : List Nat} {sv mv : Value} (w : World) (h : Fr base fb F S sv mv w) :
  Calls Tryz.prog 274 #[.pointer (some ⟨fb, 0, none⟩)] w fun e w' => (if F.ro = true then Pan e else e = .returned (.tuple #[])) ∧ w' = w := by
 have hg := h.row.cell (i := 17) (by decide)
 rw [show F.cell sv mv 17 = .bool F.ro from rfl] at hg
 clear h
 cases hr : F.ro
 ·rw [hr] at hg
  go_enter Tryz.func274, Tryz.ntmps274
  go_wp2
  go_end0
  exact ⟨rfl, rfl⟩
 ·rw [hr] at hg
  go_enter Tryz.func274, Tryz.ntmps274
  go_wp2
  exact ⟨rfl, ⟨_, _, rfl⟩, rfl⟩
def storeF (kd : Nat) (F : FS) (T : TS) : Option (FS × TS) := if F.ro = true then none else (thenF (popF F) (thenF (popF (nextF (popF F))) (some ((), pop2 F)))).map fun y => (y.2, setT T kd F.self (top1 F) (top2 F))
theorem pop_self {F : FS} : 100000 < (pop2 F).gas ∨ Same F (pop2 F) := same_pop (same_pop (Or.inr (Same.refl F)))
theorem store_of {base fb tb : Nat} {F : FS} {T : TS} {S : List Nat} {sv mv : Value} {V : TV} (kd : Nat) (w : World) (h : FT base fb tb F T S sv mv V w)
  (hset : ∀ key v x, Tr base tb T V x → Calls Tryz.prog 154 #[.pointer (some ⟨tb, 0, none⟩), cellV kd F.self key, wv v] x fun e w' => e = .returned (.tuple #[]) ∧ TTo base tb T V (setT T kd F.self key v) 2 x w') :
  Calls Tryz.prog 269 #[.pointer (some ⟨fb, 0, none⟩), .int .i64 (kd : Int)] w (Out2 (storeF kd F T) base fb tb T V S 2 w) := by
 have HM := hid_of (mayChange_I w h.fr)
 go_enter Tryz.func269, Tryz.ntmps269
 go_wp2_with fail
 refine HM.out.mono ?_
 rintro e w1 ⟨h1, rfl⟩
 by_cases hro : F.ro = true
 ·rw [if_pos hro] at h1
  obtain ⟨u, pv, rfl⟩ := h1
  refine ⟨rfl, ?_⟩
  unfold storeF
  rw [if_pos hro]
  exact ⟨⟨_, _, rfl⟩, Kb.refl _ _⟩
 rw [if_neg hro] at h1
 subst h1
 go_wp2
 refine store_r1 _ _ h.fr rfl rfl ?_ ?_
 ·intro u pv s x hno hd hk
  have e : storeF kd F T = none := by
   unfold storeF
   rw [if_neg hro]
   rcases hno with e | e
   ·rw [thenF_none (Or.inl e)]; rfl
   ·rw [thenF_none (Or.inr (thenF_none (Or.inl e)))]; rfl
  rw [e]
  exact ⟨hd, ⟨_, _, rfl⟩, hk⟩
 ·intro x S' sv' mv' b0 b1 hfr hkb hsub hn0 hg0 hr0 hn1 hg1 hr1
  have e : storeF kd F T = some (pop2 F, setT T kd F.self (top1 F) (top2 F)) := by
   unfold storeF
   rw [if_neg hro, thenF_ok fun e => no_bd (bd_pop (bd_none e)) hfr, thenF_ok fun e => no_bd (bd_none e) hfr]
   rfl
  have hsm := (pop_self (F := F)).resolve_left (fun hb => absurd hfr.gal (by have : (nextF (popF (nextF (popF F)))).gas = (pop2 F).gas := rfl; omega))
  have HE := hid_of e
  clear e
  change Fr base fb (pop2 F) S' sv' mv' x at hfr
  change wrow x b0 (top1 F) at hr0
  change wrow x b1 (top2 F) at hr1
  have hx := h.next hsm.trail hfr hkb hsub
  have hself : ∀ y, Below x.heap.size x y → y.cell? ⟨fb, 3, none⟩ = some (.int .u64 (limb F.self 0)) ∧ y.cell? ⟨fb, 3 + 1, none⟩ = some (.int .u64 (limb F.self 1)) ∧ y.cell? ⟨fb, 3 + 2, none⟩ = some (.int .u64 (limb F.self 2)) ∧ y.cell? ⟨fb, 3 + 3, none⟩ = some (.int .u64 (limb F.self 3)) := by
   intro y hy
   have hr := row_below hfr.row hy
   rw [← hsm.self]
   exact ⟨hr.cell (i := 3) (by decide), hr.cell (i := 3 + 1) (by decide), hr.cell (i := 3 + 2) (by decide), hr.cell (i := 3 + 3) (by decide)⟩
  have htp : x.cell? ⟨fb, 0, none⟩ = some (.pointer (some ⟨tb, 0, none⟩)) := (hfr.row.cell (i := 0) (by decide)).trans (congrArg some hx.ptr)
  simp only [fill, List.foldl_cons, List.foldl_nil, Act.put]
  simp only [List.setIfInBounds_toArray, List.set_cons_zero, List.set_cons_succ]
  go_wp2
  refine store_r2 (R := fun y => TTo base tb T V (setT T kd F.self (top1 F) (top2 F)) 2 x y) (self := F.self) (key := top1 F) (v := top2 F) (bk := b0) (bv := b1) _ _ hr0 hr1 hfr.row.lt htp hself ?_ (Below.refl _ _).drew rfl rfl rfl rfl rfl ?_
  ·intro y hy
   exact (hset (top1 F) (top2 F) y (hx.tr.below hy)).mono fun e w' ⟨h1, h3⟩ => ⟨h1, TTo.pre hy h3⟩
  intro y hR
  have HO : Hid (Out2 (storeF kd F T) base fb tb T V S 2 w1 (.returned (.tuple #[])) y) := by
   show Out2 _ _ _ _ _ _ _ _ _ _ _
   rw [HE.out]
   exact ⟨rfl, To2.comp (m := 0) h.foot (fun k hk => h.tr.lt hk) ⟨S, hkb, fun k hk => Or.inl hk⟩ hsub (fun k hk => Or.inl hk) (Nat.le_refl _) rfl (hx.trail hR)⟩
  clear hR HE hsm hkb hsub hr0 hr1 hself htp hx hfr hset h
  simp only [fill, List.foldl_cons, List.foldl_nil, Act.put]
  simp only [List.setIfInBounds_toArray, List.set_cons_zero, List.set_cons_succ]
  go_wp2
  go_end0
  exact HO.out
end
section
open Go.RowKit
set_option maxHeartbeats 8000000
set_option maxRecDepth 100000
theorem hid_of'' {p : Prop} (h : p) : Hid p := h
def opN (op : Nat) : Bool := (decide (1 ≤ op) && decide (op ≤ 11)) || (decide (16 ≤ op) && decide (op ≤ 29))
def pushN (op : Nat) : Bool := decide (95 ≤ op) && decide (op ≤ 127)
def dupN (op : Nat) : Bool := decide (128 ≤ op) && decide (op ≤ 143)
def swapN (op : Nat) : Bool := decide (144 ≤ op) && decide (op ≤ 159)
def logN (op : Nat) : Bool := decide (160 ≤ op) && decide (op ≤ 164)
theorem isPush_any (op : Nat) (h : op ≤ 255) (w : World) : Calls Tryz.prog 235 #[.int .u8 (op : Int)] w fun e w' => e = .returned (.bool (pushN op)) ∧ w' = w := by
 have e1 : decide ((95 : Int) ≤ (op : Int)) = decide (95 ≤ op) := by rw [decide_eq_decide]; omega
 have e2 : decide ((op : Int) ≤ 127) = decide (op ≤ 127) := by rw [decide_eq_decide]; omega
 unfold pushN
 go_enter Tryz.func235, Tryz.ntmps235
 go_wp2
 all_goals go_ret
 all_goals (refine ⟨congrArg (fun z => Ending.returned (Value.bool z)) ?_, rfl⟩; simp; try omega)
theorem isDup_any (op : Nat) (h : op ≤ 255) (w : World) : Calls Tryz.prog 237 #[.int .u8 (op : Int)] w fun e w' => e = .returned (.bool (dupN op)) ∧ w' = w := by
 have e1 : decide ((128 : Int) ≤ (op : Int)) = decide (128 ≤ op) := by rw [decide_eq_decide]; omega
 have e2 : decide ((op : Int) ≤ 143) = decide (op ≤ 143) := by rw [decide_eq_decide]; omega
 unfold dupN
 go_enter Tryz.func237, Tryz.ntmps237
 go_wp2
 all_goals go_ret
 all_goals (refine ⟨congrArg (fun z => Ending.returned (Value.bool z)) ?_, rfl⟩; simp; try omega)
theorem isSwap_any (op : Nat) (h : op ≤ 255) (w : World) : Calls Tryz.prog 239 #[.int .u8 (op : Int)] w fun e w' => e = .returned (.bool (swapN op)) ∧ w' = w := by
 have e1 : decide ((144 : Int) ≤ (op : Int)) = decide (144 ≤ op) := by rw [decide_eq_decide]; omega
 have e2 : decide ((op : Int) ≤ 159) = decide (op ≤ 159) := by rw [decide_eq_decide]; omega
 unfold swapN
 go_enter Tryz.func239, Tryz.ntmps239
 go_wp2
 all_goals go_ret
 all_goals (refine ⟨congrArg (fun z => Ending.returned (Value.bool z)) ?_, rfl⟩; simp; try omega)
theorem isLog_any (op : Nat) (h : op ≤ 255) (w : World) : Calls Tryz.prog 241 #[.int .u8 (op : Int)] w fun e w' => e = .returned (.bool (logN op)) ∧ w' = w := by
 have e1 : decide ((160 : Int) ≤ (op : Int)) = decide (160 ≤ op) := by rw [decide_eq_decide]; omega
 have e2 : decide ((op : Int) ≤ 164) = decide (op ≤ 164) := by rw [decide_eq_decide]; omega
 unfold logN
 go_enter Tryz.func241, Tryz.ntmps241
 go_wp2
 all_goals go_ret
 all_goals (refine ⟨congrArg (fun z => Ending.returned (Value.bool z)) ?_, rfl⟩; simp; try omega)
theorem isOperation_any (op : Nat) (h : op ≤ 255) (w : World) : Calls Tryz.prog 231 #[.int .u8 (op : Int)] w fun e w' => e = .returned (.bool (opN op)) ∧ w' = w := by
 have e1 : decide ((1 : Int) ≤ (op : Int)) = decide (1 ≤ op) := by rw [decide_eq_decide]; omega
 have e2 : decide ((op : Int) ≤ 11) = decide (op ≤ 11) := by rw [decide_eq_decide]; omega
 have e3 : decide ((16 : Int) ≤ (op : Int)) = decide (16 ≤ op) := by rw [decide_eq_decide]; omega
 have e4 : decide ((op : Int) ≤ 29) = decide (op ≤ 29) := by rw [decide_eq_decide]; omega
 unfold opN
 go_enter Tryz.func231, Tryz.ntmps231
 go_wp2
 all_goals go_ret
 all_goals (refine ⟨congrArg (fun z => Ending.returned (Value.bool z)) ?_, rfl⟩; first | rfl | (simp; done) | (simp; omega) | (simp_all; done) | (simp_all; omega))
def callN (op : Nat) : Bool := decide (op = 241) || decide (op = 244) || decide (op = 250)
theorem isCall_any (op : Nat) (h : op ≤ 255) (w : World) : Calls Tryz.prog 243 #[.int .u8 (op : Int)] w fun e w' => e = .returned (.bool (callN op)) ∧ w' = w := by
 have e1 : ((op : Int) == 241) = decide (op = 241) := by rw [Bool.eq_iff_iff, beq_iff_eq, decide_eq_true_eq]; omega
 have e2 : ((op : Int) == 244) = decide (op = 244) := by rw [Bool.eq_iff_iff, beq_iff_eq, decide_eq_true_eq]; omega
 have e3 : ((op : Int) == 250) = decide (op = 250) := by rw [Bool.eq_iff_iff, beq_iff_eq, decide_eq_true_eq]; omega
 unfold callN
 go_enter Tryz.func243, Tryz.ntmps243
 go_wp2
 all_goals go_ret
 all_goals (refine ⟨congrArg (fun z => Ending.returned (Value.bool z)) ?_, rfl⟩; first | rfl | (simp; done) | (simp; omega) | (simp_all; done) | (simp_all; omega))
def costRow (op : Nat) : Option Nat := if opN op then some 5 else if pushN op then some 3 else if dupN op then some 3 else if swapN op then some 3 else if logN op then some 300 else none
def costN (op : Nat) : Option Nat :=
 if op = 0 ∨ op = 243 ∨ op = 253 then some 0 else if op = 91 then some 1
 else if op = 48 ∨ op = 51 ∨ op = 52 ∨ op = 54 ∨ op = 56 ∨ op = 61 ∨ op = 80 ∨ op = 88 ∨ op = 89 ∨ op = 90 then some 2
 else if op = 53 ∨ op = 55 ∨ op = 57 ∨ op = 62 ∨ op = 81 ∨ op = 82 ∨ op = 83 ∨ op = 94 then some 3
 else if op = 86 then some 8 else if op = 87 ∨ op = 10 then some 10
 else if op = 49 ∨ op = 84 ∨ op = 92 ∨ op = 93 ∨ op = 241 ∨ op = 244 ∨ op = 250 then some 100 else if op = 85 then some 200 else costRow op
def costV (o : Option Nat) : Value := .tuple #[.int .i64 ((o.getD 0 : Nat) : Int), .bool o.isSome]
theorem baseCostInRow_any (op : Nat) (h : op ≤ 255) (w : World) : Calls Tryz.prog 230 #[.int .u8 (op : Int)] w fun e w' => e = .returned (costV (costRow op)) ∧ w' = w := by
 have H1 := hid_of'' (isOperation_any op h)
 have H2 := hid_of'' (isPush_any op h)
 have H3 := hid_of'' (isDup_any op h)
 have H4 := hid_of'' (isSwap_any op h)
 have H5 := hid_of'' (isLog_any op h)
 unfold costRow
 generalize opN op = b1 at *
 generalize pushN op = b2 at *
 generalize dupN op = b3 at *
 generalize swapN op = b4 at *
 generalize logN op = b5 at *
 cases b1 <;> cases b2 <;> cases b3 <;> cases b4 <;> cases b5
 all_goals (
  go_enter Tryz.func230, Tryz.ntmps230
  go_wp2_with (first
   | (go_at_call 231; refine (H1.out _).mono ?_; rintro e w1 ⟨rfl, rfl⟩)
   | (go_at_call 235; refine (H2.out _).mono ?_; rintro e w1 ⟨rfl, rfl⟩)
   | (go_at_call 237; refine (H3.out _).mono ?_; rintro e w1 ⟨rfl, rfl⟩)
   | (go_at_call 239; refine (H4.out _).mono ?_; rintro e w1 ⟨rfl, rfl⟩)
   | (go_at_call 241; refine (H5.out _).mono ?_; rintro e w1 ⟨rfl, rfl⟩))
  go_ret2
  exact ⟨rfl, rfl⟩)
theorem baseCost_any (op : Nat) (h : op ≤ 255) (w : World) : Calls Tryz.prog 203 #[.int .u8 (op : Int)] w fun e w' => e = .returned (costV (costN op)) ∧ w' = w := by
 have H1 := hid_of'' (baseCostInRow_any op h)
 have HC : Hid (∀ q : Nat, costN op = some q → Value.tuple #[.int .i64 (q : Int), .bool true] = costV (costN op)) := fun q e => by rw [e]; rfl
 have HD : Hid (costN op = costRow op → Value.tuple #[.int .i64 (((costRow op).getD 0 : Nat) : Int), .bool (costRow op).isSome] = costV (costN op)) := fun e => by rw [e]; rfl
 unfold costV at H1
 generalize costV (costN op) = V at *
 go_enter Tryz.func203, Tryz.ntmps203
 go_wp2_with (go_at_call 230; refine (H1.out _).mono ?_; rintro e w1 ⟨rfl, rfl⟩)
 all_goals go_ret2
 all_goals refine ⟨congrArg Ending.returned ?_, rfl⟩
 all_goals first
  | exact HC.out 0 (by simp only [beq_iff_eq, beq_eq_false_iff_ne, ne_eq] at *; unfold costN; rw [if_pos (by omega)])
  | exact HC.out 1 (by simp only [beq_iff_eq, beq_eq_false_iff_ne, ne_eq] at *; unfold costN; rw [if_neg (by omega), if_pos (by omega)])
  | exact HC.out 2 (by simp only [beq_iff_eq, beq_eq_false_iff_ne, ne_eq] at *; unfold costN; rw [if_neg (by omega), if_neg (by omega), if_pos (by omega)])
  | exact HC.out 3 (by simp only [beq_iff_eq, beq_eq_false_iff_ne, ne_eq] at *; unfold costN; rw [if_neg (by omega), if_neg (by omega), if_neg (by omega), if_pos (by omega)])
  | exact HC.out 8 (by simp only [beq_iff_eq, beq_eq_false_iff_ne, ne_eq] at *; unfold costN; rw [if_neg (by omega), if_neg (by omega), if_neg (by omega), if_neg (by omega), if_pos (by omega)])
  | exact HC.out 10 (by simp only [beq_iff_eq, beq_eq_false_iff_ne, ne_eq] at *; unfold costN; rw [if_neg (by omega), if_neg (by omega), if_neg (by omega), if_neg (by omega), if_neg (by omega), if_pos (by omega)])
  | exact HC.out 100 (by simp only [beq_iff_eq, beq_eq_false_iff_ne, ne_eq] at *; unfold costN; rw [if_neg (by omega), if_neg (by omega), if_neg (by omega), if_neg (by omega), if_neg (by omega), if_neg (by omega), if_pos (by omega)])
  | exact HC.out 200 (by simp only [beq_iff_eq, beq_eq_false_iff_ne, ne_eq] at *; unfold costN; rw [if_neg (by omega), if_neg (by omega), if_neg (by omega), if_neg (by omega), if_neg (by omega), if_neg (by omega), if_neg (by omega), if_pos (by omega)])
  | exact HD.out (by simp only [beq_iff_eq, beq_eq_false_iff_ne, ne_eq] at *; unfold costN; rw [if_neg (by omega), if_neg (by omega), if_neg (by omega), if_neg (by omega), if_neg (by omega), if_neg (by omega), if_neg (by omega), if_neg (by omega)])
end
section
open Go.RowKit
def countN (op : Nat) : Nat := if op = 21 ∨ op = 25 then 1 else if op = 8 ∨ op = 9 then 3 else 2
set_option maxRecDepth 100000 in
theorem operandCount_any (op : Nat) (h : op ≤ 255) (w : World) : Calls Tryz.prog 256 #[.int .u8 (op : Int)] w fun e w' => e = .returned (.int .i64 (countN op : Int)) ∧ w' = w := by
 have HC : Hid (∀ q : Nat, countN op = q → Value.int .i64 (q : Int) = .int .i64 (countN op : Int)) := fun q e => by rw [e]
 generalize Value.int .i64 (countN op : Int) = V at *
 go_enter Tryz.func256, Tryz.ntmps256
 go_wp2
 all_goals go_ret
 all_goals refine ⟨congrArg Ending.returned ?_, rfl⟩
 all_goals first
  | exact HC.out 1 (by simp only [beq_iff_eq, beq_eq_false_iff_ne, ne_eq] at *; unfold countN; rw [if_pos (by omega)])
  | exact HC.out 3 (by simp only [beq_iff_eq, beq_eq_false_iff_ne, ne_eq] at *; unfold countN; rw [if_neg (by omega), if_pos (by omega)])
  | exact HC.out 2 (by simp only [beq_iff_eq, beq_eq_false_iff_ne, ne_eq] at *; unfold countN; rw [if_neg (by omega), if_neg (by omega)])
def popsF : Nat → FS → Option (List Nat × FS)
 | 0, F => some ([], F)
 | i + 1, F => match popsF i F with
  | none => none
  | some (l, G) => match popF G with
   | none => none
   | some (n, G') => some (l ++ [n], G')
theorem popsF_none {F : FS} {i : Nat} (h : popsF i F = none) : ∀ j, i ≤ j → popsF j F = none
 | 0, hj => by
  obtain rfl : i = 0 := by omega
  exact h
 | j + 1, hj => by
  by_cases e : i = j + 1
  ·rw [← e]; exact h
  ·rw [popsF, popsF_none h j (by omega)]
theorem popsF_len {F : FS} : ∀ {i : Nat} {l : List Nat} {G : FS}, popsF i F = some (l, G) → l.length = i
 | 0, l, G, h => by obtain ⟨rfl, _⟩ := Prod.mk.inj (Option.some.inj h); rfl
 | i + 1, l, G, h => by
  rw [popsF] at h
  split at h
  ·cases h
  ·rename_i l1 G1 h1
   split at h
   ·cases h
   ·obtain ⟨rfl, _⟩ := Prod.mk.inj (Option.some.inj h)
    rw [List.length_append, popsF_len h1]
    rfl
def opsC (l : List Nat) : Nat → Value := fun i => .int .u64 (limb (l.getD (i / 4) 0) (i % 4))
end
section
open Go.RowKit
set_option maxRecDepth 100000 in
set_option maxHeartbeats 4000000 in
theorem operate_r9 {base fb : Nat} {F : FS} {S : List Nat} {sv mv : Value} {Q : Exit → Act → World → Prop} (a : Act) (w : World) {br nr : Nat} (hr6 : wrow w br (nr)) (hr6n : br ∉ S) (h : Fr base fb F S sv mv w) (hsz : decide (43 < a.tmps.size) = true) (c6 : a.tmps.getD 6 undef = .pointer (some ⟨br, 0, none⟩)) (c0 : a.tmps.getD 0 undef = .pointer (some ⟨fb, 0, none⟩))
  (hpan : ∀ u pv s x, (pushF (nr) (F) = none) → s.defers = a.defers → Kb S w x → Q (.panic [{ v := .iface u pv, recovered := false }]) s x)
  (hok : ∀ (x : World) (S' : List Nat) (sv' mv' : Value), Fr base fb (nextF (pushF (nr) (F))) S' sv' mv' x → Kb S w x → (∀ j ∈ S', j ∈ S ∨ w.heap.size ≤ j) → Q .normal (fill a [(39, .pointer (some ⟨fb, 0, none⟩)), (40, .pointer (some ⟨fb, 0, none⟩)), (41, .pointer (some ⟨fb, 19, none⟩)), (42, wv (nr)), (43, Value.tuple #[])]) x) :
  (Code.region 9 #[⟨some 39, .move (.tmp 0), 132, "instructions.go:18", #[], none⟩, ⟨some 40, .nilCheck (.tmp 39), 0, "instructions.go:18", #[⟨0, .data⟩], none⟩, ⟨some 41, .fieldAddr 137 (.tmp 40) 10, 0, "instructions.go:18", #[⟨1, .data⟩], none⟩, ⟨some 42, .load 24 (.tmp 6), 24, "instructions.go:18", #[], none⟩, ⟨some 43, .call ⟨.value (.func 259), #[.tmp 41, .tmp 42], #[135, 24]⟩, 0, "instructions.go:18", #[⟨2, .data⟩, ⟨3, .data⟩], none⟩] true).wp Tryz.prog Q a w := by
 have hsz := of_decide_eq_true hsz
 refine wp_region_fs (by kernel_rfl) (by kernel_rfl) base fb (fun k => match k with | 0 => F | _ => nextF (pushF (nr) (F))) S w h.hs [(some 39, Cst (.pointer (some ⟨fb, 0, none⟩))), (some 40, Cst (.pointer (some ⟨fb, 0, none⟩))), (some 41, Cst (.pointer (some ⟨fb, 19, none⟩))), (some 42, Cst (wv (nr))), (some 43, Cst (Value.tuple #[]))] [4] [] rfl (by rfl) ?_ ?_ ?_ S sv mv (h.below (Below.refl _ _).drew) (Kb.refl _ _).drew (fun j hj => Or.inl hj) [(6, .pointer (some ⟨br, 0, none⟩)), (0, .pointer (some ⟨fb, 0, none⟩))] ?_ (by rfl) (by kernel_rfl) (by rfl) (by rfl) ?_ ?_ ?_ ?_ ?_ ?_
 ·refine List.all_eq_true.2 fun d hd => decide_eq_true ?_
  have hd2 : d ∈ ([39, 40, 41, 42, 43] : List Nat) := hd
  simp at hd2
  omega
 ·intro i d T ht
  have hm := List.mem_of_getElem? ht
  simp only [List.mem_cons, List.not_mem_nil, or_false, Prod.mk.injEq] at hm
  rcases hm with ⟨_, rfl⟩ | ⟨_, rfl⟩ | ⟨_, rfl⟩ | ⟨_, rfl⟩ | ⟨_, rfl⟩ <;> first | exact cst_stable _ | exact plc_stable | exact pc_stable _ | exact ln_stable _ | exact pr_stable _ _ | exact any_stable | exact prA_stable _ _ | exact stk_stable _ | exact wat_stable _ | exact nv_stable
 ·exact fun hne => absurd rfl hne
 ·intro p hp
  simp only [List.mem_cons, List.not_mem_nil, or_false] at hp
  rcases hp with rfl | rfl
  ·exact c6
  ·exact c0
 ·intro b hb; cases hb
 ·intro i o d T ho ht hic hnb s x k S1 sv1 mv1 hfr hkb hb hdep hkp
  have hi : i < 5 := (Array.getElem?_eq_some_iff.1 ho).1
  rcases ltq5 hi with rfl | rfl | rfl | rfl | rfl
  ·obtain rfl := sj ho
   obtain ⟨rfl, rfl⟩ := pk ht
   exact ⟨want_none rfl, fun K hK => st_move 0 39 _ (hb (0, .pointer (some ⟨fb, 0, none⟩)) (List.Mem.tail _ (List.Mem.head _))) (hK _ x (Below.refl _ _) (fun h => by cases h) rfl)⟩
  ·obtain rfl := sj ho
   obtain ⟨rfl, rfl⟩ := pk ht
   exact ⟨want_none rfl, fun K hK => st_nil (hdep ⟨0, .data⟩ (by simp) rfl _ _ rfl) (hK _ x (Below.refl _ _) (fun h => by cases h) rfl)⟩
  ·obtain rfl := sj ho
   obtain ⟨rfl, rfl⟩ := pk ht
   exact ⟨want_none rfl, fun K hK => st_f_stack (hdep ⟨1, .data⟩ (by simp) rfl _ _ rfl) (hK _ x (Below.refl _ _) (fun h => by cases h) rfl)⟩
  ·obtain rfl := sj ho
   obtain ⟨rfl, rfl⟩ := pk ht
   exact ⟨want_none rfl, fun K hK => st_load 6 42 _ _ (hb (6, .pointer (some ⟨br, 0, none⟩)) (List.Mem.head _)) (hkb.row hr6 hr6n) (hK _ x (Below.refl _ _) (fun h => by cases h) rfl)⟩
  ·exact absurd (by simp) hic
 ·intro p i o d T hp ho ht s x S1 sv1 mv1 hfr hkb hsub hdf hb hdep
  match p, hp with
  | 0, hp =>
   obtain rfl := Option.some.inj (show some 4 = some i from hp)
   obtain rfl := sj ho
   obtain ⟨rfl, rfl⟩ := pk ht
   refine ⟨want_none rfl, fun K hK => st_out (r := pushF (nr) (F)) (val := unitV) own_push (ev2 (hdep ⟨2, .data⟩ (by simp) rfl _ _ rfl) (hdep ⟨3, .data⟩ (by simp) rfl _ _ rfl)) (push_I (nr) x hfr) (fun u pv x' hrn hk => hpan u pv s x' hrn hdf (hkb.trans hk hsub)) (fun y F' S2 sv2 mv2 x' hr h1 h2 h3 => ?_)⟩
   refine hK _ S2 sv2 mv2 x' ?_ h2 h3 (fun h => by cases h) ?_
   ·show Fr base fb (nextF (pushF (nr) (F))) S2 sv2 mv2 x'
    rw [hr]
    exact h1
   ·show _ = Value.tuple #[]
    first | rfl | (rw [hr]; rfl)
  | _ + 1, hp => cases hp
 ·intro b hb; cases hb
 ·intro b hb; cases hb
 ·intro vs x S1 sv1 mv1 hfr hkb hsub hl hT hB
  obtain ⟨v0, v1, v2, v3, v4, rfl⟩ := lenq5 (hl : vs.length = 5)
  obtain rfl : v0 = .pointer (some ⟨fb, 0, none⟩) := hT 0 _ _ rfl
  obtain rfl : v1 = .pointer (some ⟨fb, 0, none⟩) := hT 1 _ _ rfl
  obtain rfl : v2 = .pointer (some ⟨fb, 19, none⟩) := hT 2 _ _ rfl
  obtain rfl : v3 = wv (nr) := hT 3 _ _ rfl
  obtain rfl : v4 = Value.tuple #[] := hT 4 _ _ rfl
  exact hok x S1 sv1 mv1 hfr hkb hsub
end
section
open Go.RowKit
set_option maxHeartbeats 8000000
set_option maxRecDepth 100000
def operF (op : Nat) (F : FS) : Option (Unit × FS) := match popsF (countN op) F with
 | none => none
 | some (l, G) => match (if op = 10 then payF (10 * (pl (l.getD 1 0) 0).length) G else some ((), G)) with
  | none => none
  | some (_, G2) => pushF (fcalc op (l.getD 0 0 % M) (l.getD 1 0 % M) (l.getD 2 0 % M)) G2
structure OL (base fb : Nat) (F : FS) (S : List Nat) (w : World) (l : List Nat) (G : FS) (S' : List Nat) (sv' mv' : Value) (x : World) : Prop where
 fr : Fr base fb G S' sv' mv' x
 kb : Kb S w x
 sub : ∀ j ∈ S', j ∈ S ∨ w.heap.size ≤ j
 row : x.rowIs w.heap.size 284 12 (opsC l)
 out : w.heap.size ∉ S'
 hw : 0 < w.heap.size
theorem OL.start {base fb : Nat} {F : FS} {S : List Nat} {sv mv : Value} {w : World} (h : Fr base fb F S sv mv w) : OL base fb F S w [] F S sv mv (w.alloc (.cells #[.int .u64 0, .int .u64 0, .int .u64 0, .int .u64 0, .int .u64 0, .int .u64 0, .int .u64 0, .int .u64 0, .int .u64 0, .int .u64 0, .int .u64 0, .int .u64 0] 284)) := by
 refine ⟨h.below (bal (Below.refl _ w) _), Kb.of_below (bal (Below.refl _ w) _), fun j hj => Or.inl hj, ?_, fun hm => Nat.lt_irrefl _ (h.footlt _ hm), h.hs⟩
 refine World.rowIs_alloc w _ _ _ fun i hi => ?_
 have hi2 : i < 12 := hi
 rcases ltq12 hi2 with rfl | rfl | rfl | rfl | rfl | rfl | rfl | rfl | rfl | rfl | rfl | rfl <;> simp [opsC, limb]
theorem tb4 : (4 : Nat) ≠ 284 := by decide
def put4a (x : World) (b o n : Nat) : World := (((x.setCell ⟨b, o, none⟩ (.int .u64 (limb n 0))).setCell ⟨b, o + 1, none⟩ (.int .u64 (limb n 1))).setCell ⟨b, o + 2, none⟩ (.int .u64 (limb n 2))).setCell ⟨b, o + 3, none⟩ (.int .u64 (limb n 3))
theorem put4a_kb (x : World) (b o n : Nat) : Kb [b] x (put4a x b o n) := ((((Kb.refl [b] x).setCell (Or.inl (by simp)) _).setCell (Or.inl (by simp)) _).setCell (Or.inl (by simp)) _).setCell (Or.inl (by simp)) _
theorem opsC_put {x : World} {b : Nat} {l : List Nat} (h : x.rowIs b 284 12 (opsC l)) (n : Nat) : (put4a x b (l.length * 4) n).rowIs b 284 12 (opsC (l ++ [n])) := by
 refine ((((h.set (l.length * 4) _).set (l.length * 4 + 1) _).set (l.length * 4 + 2) _).set (l.length * 4 + 3) _).congr fun i hi => ?_
 have hg : ∀ j, j ≠ l.length → (l ++ [n]).getD j 0 = l.getD j 0 := fun j hj => by
  rw [List.getD_eq_getElem?_getD, List.getD_eq_getElem?_getD]
  by_cases hlt : j < l.length
  ·rw [List.getElem?_append_left hlt]
  ·rw [List.getElem?_eq_none (by simp; omega), List.getElem?_eq_none (by omega)]
 have hgn : (l ++ [n]).getD l.length 0 = n := by simp [List.getD_eq_getElem?_getD]
 unfold opsC
 show (if i = l.length * 4 + 3 then _ else if i = l.length * 4 + 2 then _ else if i = l.length * 4 + 1 then _ else if i = l.length * 4 then _ else _) = _
 by_cases e3 : i = l.length * 4 + 3
 ·rw [if_pos e3, show i / 4 = l.length by omega, show i % 4 = 3 by omega, hgn]
 ·rw [if_neg e3]
  by_cases e2 : i = l.length * 4 + 2
  ·rw [if_pos e2, show i / 4 = l.length by omega, show i % 4 = 2 by omega, hgn]
  ·rw [if_neg e2]
   by_cases e1 : i = l.length * 4 + 1
   ·rw [if_pos e1, show i / 4 = l.length by omega, show i % 4 = 1 by omega, hgn]
   ·rw [if_neg e1]
    by_cases e0 : i = l.length * 4
    ·rw [if_pos e0, show i / 4 = l.length by omega, show i % 4 = 0 by omega, hgn]
    ·rw [if_neg e0, hg (i / 4) (by omega)]
theorem OL.step {base fb : Nat} {F : FS} {S : List Nat} {w : World} {l : List Nat} {G G' : FS} {S' S'' : List Nat} {sv' mv' sv'' mv'' : Value} {x x' : World} (h : OL base fb F S w l G S' sv' mv' x) (hf : Fr base fb G' S'' sv'' mv'' x') (hk : Kb S' x x') (hs : ∀ j ∈ S'', j ∈ S' ∨ x.heap.size ≤ j) (n : Nat) :
  OL base fb F S w (l ++ [n]) G' S'' sv'' mv'' (put4a x' w.heap.size (l.length * 4) n) := by
 have hlt : w.heap.size < x.heap.size := h.row.lt
 have ho : w.heap.size ∉ S'' := fun hm => (hs _ hm).elim h.out (fun h2 => by omega)
 have hkp := put4a_kb x' w.heap.size (l.length * 4) n
 have h0 := h.hw
 exact ⟨hf.kb hkp (fun j hj => by simp; exact fun e => ho (e ▸ hj)) (by simp; omega) (fun g N f hr hm => row_row_ne hr (hk.row h.row h.out) tb4 (by simpa using hm)), (h.kb.trans hk h.sub).trans hkp (fun j hj => Or.inr (by simp at hj; omega)), fun j hj => (hs j hj).elim (h.sub j) (fun h2 => Or.inr (Nat.le_trans h.kb.size h2)), opsC_put (hk.row h.row h.out) n, ho, h0⟩
theorem operate_none {base fb : Nat} {F : FS} {S : List Nat} {sv mv : Value} (op : Nat) (ho : op ≤ 255) (w : World) (h : Fr base fb F S sv mv w) (hp : popsF (countN op) F = none) :
  Calls Tryz.prog 232 #[.pointer (some ⟨fb, 0, none⟩), .int .u8 (op : Int)] w (Out (none : Option (Unit × FS)) unitV base fb S w) := by
 have HC := hid_of (operandCount_any op ho)
 have hk : countN op ≤ 3 := by unfold countN; split; omega; split <;> omega
 generalize countN op = k at *
 have HP := hid_of hp
 have HF := hid_of h
 clear h hp
 go_enter Tryz.func232, Tryz.ntmps232
 go_wp2_with fail
 refine (HC.out _).mono ?_
 rintro e w1 ⟨rfl, rfl⟩
 go_wp2
 go_loopw [10] (fun t10 x => ∃ (i : Nat) (l : List Nat) (G : FS) (S' : List Nat) (sv' mv' : Value), i ≤ k ∧ t10 = .int .i64 (i : Int) ∧ Hid (popsF i F = some (l, G)) ∧ OL base fb F S w l G S' sv' mv' x) (fun t10 _ => k - (intOf t10).toNat)
 case atStart => exact ⟨0, [], F, S, sv, mv, by omega, rfl, rfl, OL.start HF.out⟩
 case round =>
  obtain ⟨i, l, G, S', sv', mv', hi, rfl, HL, hol⟩ := hrel
  by_cases hlt : i < k
  ·have d : decide ((i : Int) < (k : Int)) = true := decide_eq_true (by omega)
   have hll := popsF_len HL.out
   have HPO := hid_of (pop_I _ hol.fr)
   cases hpo : popF G with
   | none =>
    rw [hpo] at HPO
    have HKB := hid_of hol.kb
    have HSB := hid_of hol.sub
    clear hol hpo
    go_wp2_with fail
    refine HPO.out.mono ?_
    rintro e x2 ⟨⟨u, pv, rfl⟩, hk2⟩
    exact ⟨rfl, ⟨_, _, rfl⟩, HKB.out.trans hk2 HSB.out⟩
   | some r =>
    obtain ⟨n, G'⟩ := r
    rw [hpo] at HPO
    have HL2 : Hid (popsF (i + 1) F = some (l ++ [n], G')) := by show _ = _; rw [popsF, HL.out]; show (match popF G with | none => none | some (n, G') => some (l ++ [n], G')) = _; rw [hpo]
    have HOL := hid_of hol
    clear hol hpo
    go_wp2_with fail
    refine HPO.out.mono ?_
    rintro e x2 ⟨rfl, S2, sv2, mv2, hf2, hk2, hs2⟩
    have hr2 := hk2.row HOL.out.row HOL.out.out
    have HOL2 := hid_of (HOL.out.step hf2 hk2 hs2 n)
    have hfz := hr2.frozen
    have c0 := hr2.cell (i := i * 4) (by omega)
    have c1 := hr2.cell (i := i * 4 + 1) (by omega)
    have c2 := hr2.cell (i := i * 4 + 2) (by omega)
    have c3 := hr2.cell (i := i * 4 + 3) (by omega)
    clear hf2 hk2 hs2 hr2
    have hi3 : i < 3 := by omega
    go_wp2
    refine ⟨⟨i + 1, l ++ [n], G', S2, sv2, mv2, by omega, by go_num, HL2, ?_⟩, by simp [intOf]; omega⟩
    have h9 := HOL2.out
    rw [hll] at h9
    exact h9
  ·obtain rfl : i = k := by omega
   rw [HP.out] at HL
   exact absurd HL.out (by simp)
theorem OL.words {base fb : Nat} {F : FS} {S : List Nat} {w : World} {l : List Nat} {G : FS} {S' : List Nat} {sv' mv' : Value} {x : World} (h : OL base fb F S w l G S' sv' mv' x) :
  (x.cell? ⟨w.heap.size, 0, none⟩ = some (.int .u64 (limb (l.getD 0 0) 0)) ∧ x.cell? ⟨w.heap.size, 1, none⟩ = some (.int .u64 (limb (l.getD 0 0) 1)) ∧ x.cell? ⟨w.heap.size, 2, none⟩ = some (.int .u64 (limb (l.getD 0 0) 2)) ∧ x.cell? ⟨w.heap.size, 3, none⟩ = some (.int .u64 (limb (l.getD 0 0) 3))) ∧
  (x.cell? ⟨w.heap.size, 4, none⟩ = some (.int .u64 (limb (l.getD 1 0) 0)) ∧ x.cell? ⟨w.heap.size, 5, none⟩ = some (.int .u64 (limb (l.getD 1 0) 1)) ∧ x.cell? ⟨w.heap.size, 6, none⟩ = some (.int .u64 (limb (l.getD 1 0) 2)) ∧ x.cell? ⟨w.heap.size, 7, none⟩ = some (.int .u64 (limb (l.getD 1 0) 3))) ∧
  (x.cell? ⟨w.heap.size, 8, none⟩ = some (.int .u64 (limb (l.getD 2 0) 0)) ∧ x.cell? ⟨w.heap.size, 9, none⟩ = some (.int .u64 (limb (l.getD 2 0) 1)) ∧ x.cell? ⟨w.heap.size, 10, none⟩ = some (.int .u64 (limb (l.getD 2 0) 2)) ∧ x.cell? ⟨w.heap.size, 11, none⟩ = some (.int .u64 (limb (l.getD 2 0) 3))) :=
 ⟨⟨h.row.cell (i := 0) (by omega), h.row.cell (i := 1) (by omega), h.row.cell (i := 2) (by omega), h.row.cell (i := 3) (by omega)⟩, ⟨h.row.cell (i := 4) (by omega), h.row.cell (i := 5) (by omega), h.row.cell (i := 6) (by omega), h.row.cell (i := 7) (by omega)⟩, ⟨h.row.cell (i := 8) (by omega), h.row.cell (i := 9) (by omega), h.row.cell (i := 10) (by omega), h.row.cell (i := 11) (by omega)⟩⟩
theorem operate_plain {base fb : Nat} {F G : FS} {S : List Nat} {sv mv : Value} {l : List Nat} (op : Nat) (ho : op ≤ 255) (h10 : op ≠ 10) (w : World) (h : Fr base fb F S sv mv w) (hp : popsF (countN op) F = some (l, G)) :
  Calls Tryz.prog 232 #[.pointer (some ⟨fb, 0, none⟩), .int .u8 (op : Int)] w (Out (pushF (fcalc op (l.getD 0 0 % M) (l.getD 1 0 % M) (l.getD 2 0 % M)) G) unitV base fb S w) := by
 have HC := hid_of (operandCount_any op ho)
 have hk : countN op ≤ 3 := by unfold countN; split; omega; split <;> omega
 generalize countN op = k at *
 have HP := hid_of hp
 have HF := hid_of h
 have hne : ((op : Int) == 10) = false := by simp; omega
 obtain ⟨a, HA⟩ : ∃ a, Hid (a = l.getD 0 0) := ⟨_, rfl⟩
 obtain ⟨b, HB⟩ : ∃ b, Hid (b = l.getD 1 0) := ⟨_, rfl⟩
 obtain ⟨c, HCC⟩ : ∃ c, Hid (c = l.getD 2 0) := ⟨_, rfl⟩
 rw [← HA.out, ← HB.out, ← HCC.out]
 have HCA := hid_of (calc_any op ho a b c)
 obtain ⟨y, HY⟩ : ∃ y, Hid (y = fcalc op (a % M) (b % M) (c % M)) := ⟨_, rfl⟩
 rw [← HY.out] at HCA ⊢
 clear h hp
 go_enter Tryz.func232, Tryz.ntmps232
 go_wp2_with fail
 refine (HC.out _).mono ?_
 rintro e w1 ⟨rfl, rfl⟩
 go_wp2
 go_loopw [10] (fun t10 x => ∃ (i : Nat) (l : List Nat) (G : FS) (S' : List Nat) (sv' mv' : Value), i ≤ k ∧ t10 = .int .i64 (i : Int) ∧ Hid (popsF i F = some (l, G)) ∧ OL base fb F S w l G S' sv' mv' x) (fun t10 _ => k - (intOf t10).toNat)
 case atStart => exact ⟨0, [], F, S, sv, mv, by omega, rfl, rfl, OL.start HF.out⟩
 case round =>
  obtain ⟨i, l1, G1, S', sv', mv', hi, rfl, HL, hol⟩ := hrel
  by_cases hlt : i < k
  ·have d : decide ((i : Int) < (k : Int)) = true := decide_eq_true (by omega)
   have hll := popsF_len HL.out
   have HPO := hid_of (pop_I _ hol.fr)
   cases hpo : popF G1 with
   | none =>
    exfalso
    have h1 : popsF (i + 1) F = none := by rw [popsF, HL.out]; show (match popF G1 with | none => none | some (n, G') => some (l1 ++ [n], G')) = _; rw [hpo]
    have h2 := popsF_none h1 k (by omega)
    rw [HP.out] at h2
    cases h2
   | some r =>
    obtain ⟨n, G'⟩ := r
    rw [hpo] at HPO
    have HL2 : Hid (popsF (i + 1) F = some (l1 ++ [n], G')) := by show _ = _; rw [popsF, HL.out]; show (match popF G1 with | none => none | some (n, G') => some (l1 ++ [n], G')) = _; rw [hpo]
    have HOL := hid_of hol
    clear hol hpo
    go_wp2_with fail
    refine HPO.out.mono ?_
    rintro e x2 ⟨rfl, S2, sv2, mv2, hf2, hk2, hs2⟩
    have hr2 := hk2.row HOL.out.row HOL.out.out
    have HOL2 := hid_of (HOL.out.step hf2 hk2 hs2 n)
    have hfz := hr2.frozen
    have c0 := hr2.cell (i := i * 4) (by omega)
    have c1 := hr2.cell (i := i * 4 + 1) (by omega)
    have c2 := hr2.cell (i := i * 4 + 2) (by omega)
    have c3 := hr2.cell (i := i * 4 + 3) (by omega)
    clear hf2 hk2 hs2 hr2
    have hi3 : i < 3 := by omega
    go_wp2
    refine ⟨⟨i + 1, l1 ++ [n], G', S2, sv2, mv2, by omega, by go_num, HL2, ?_⟩, by simp [intOf]; omega⟩
    have h9 := HOL2.out
    rw [hll] at h9
    exact h9
  ·obtain rfl : i = k := by omega
   have hle : popsF i F = some (l1, G1) := HL.out
   rw [HP.out] at hle
   obtain ⟨rfl, rfl⟩ := Prod.mk.inj (Option.some.inj hle)
   have d : decide ((i : Int) < (i : Int)) = false := decide_eq_false (by omega)
   obtain ⟨⟨a0, a1, a2, a3⟩, ⟨b0, b1, b2, b3⟩, ⟨c0, c1, c2, c3⟩⟩ := hol.words
   rw [← HA.out] at a0 a1 a2 a3
   rw [← HB.out] at b0 b1 b2 b3
   rw [← HCC.out] at c0 c1 c2 c3
   have HOL := hid_of hol
   clear hol hle HL
   go_wp2_with fail
   refine (HCA.out _).mono ?_
   rintro e x2 ⟨r, HR, rfl, hb2⟩
   obtain rfl : r = y := HR.out
   have HB2 := hid_of hb2
   clear hb2 HR
   go_wp2
   have hbe : Below wr.heap.size wr (x2.alloc (wc r)) := bal HB2.out _
   have hkb : Kb S w (x2.alloc (wc r)) := HOL.out.kb.below hbe
   refine operate_r9 _ (x2.alloc (wc r)) (br := x2.heap.size) (nr := r) (wrow_new x2 r) (fun hm => by have h5 := HOL.out.fr.footlt _ hm; have h6 := HB2.out.size; omega) (HOL.out.fr.below hbe) rfl rfl rfl ?_ ?_
   ·intro u pv s x hno hd hk
    refine ⟨hd, ?_⟩
    rw [hno]
    exact ⟨⟨_, _, rfl⟩, hkb.trans hk HOL.out.sub⟩
   ·intro x S2 sv2 mv2 hfr hk2 hs2
    cases hpu : pushF r G with
    | none =>
     rw [hpu] at hfr
     exact absurd hfr (fun h => no_bad h)
    | some q =>
     obtain ⟨u, G2⟩ := q
     rw [hpu] at hfr
     first | go_end0 | refine bodyPost_ret (results_none rfl _ _ _) rfl ?_
     exact ⟨rfl, S2, sv2, mv2, hfr, hkb.trans hk2 HOL.out.sub, fun j hj => (hs2 j hj).elim (HOL.out.sub j) (fun h => Or.inr (Nat.le_trans hkb.size h))⟩
end
end cin
end Go.Proofs.YtohoajjdoihekaaGreatDoor
