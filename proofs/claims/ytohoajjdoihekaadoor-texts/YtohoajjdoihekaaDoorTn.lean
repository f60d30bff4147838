/-
  Small numbers in tens, the document's way, from ten on.
-/
import Derived.Test.YtohoajjdoihekaaDoorTm
import Derived.Test.YtohoajjdoihekaaDoorSt4
set_option linter.unusedVariables false
set_option linter.unusedSimpArgs false
namespace Go.Proofs.YtohoajjdoihekaaDoor
open Go.RowKit
namespace cin
theorem p11 {i : Nat} (h : i < 11) : i = 0 ∨ i = 1 ∨ i = 2 ∨ i = 3 ∨ i = 4 ∨ i = 5 ∨ i = 6 ∨ i = 7 ∨ i = 8 ∨ i = 9 ∨ i = 10 := by omega
theorem len11 {vs : List Value} (h : vs.length = 11) : ∃ v0 v1 v2 v3 v4 v5 v6 v7 v8 v9 v10 : Value, vs = [v0, v1, v2, v3, v4, v5, v6, v7, v8, v9, v10] := by
  match vs, h with
  | [v0, v1, v2, v3, v4, v5, v6, v7, v8, v9, v10], _ => exact ⟨v0, v1, v2, v3, v4, v5, v6, v7, v8, v9, v10, rfl⟩
theorem own_decimal : Own 36 := fun _ _ => by kernel_rfl
section
set_option maxRecDepth 100000
variable {s : Act} {x : World} {pos : String} {af : Array Edge} {g : Option (Nat × Bool)} {K : Act → World → Prop} {Q : Exit → Act → World → Prop}
theorem wrap_s (z : Int) (h0 : 0 ≤ z) (h1 : z ≤ 20000) : IntKind.i64.wrap z = z := by
  rw [IntKind.wrap_i64]
  omega
theorem st_quo10 (t d k : Nat) (hk : k < 200) (he : s.tmps.getD t undef = .int .i64 (k : Int)) (hK : K (s.put (some d) (.int .i64 ((k / 10 : Nat) : Int))) x) {ty : TypeId} :
    Oper.wp Tryd.prog { dst := some d, op := .binOp .quo 3 (.tmp t) (.const (.int .i64 10)) 3, type := ty, pos := pos, after := af, guard := g } s x K Q := by
  have he2 : s.eval (.tmp t) = .int .i64 (k : Int) := he
  rw [Int.natCast_ediv] at hK
  have hw := wrap_s ((k : Int) / 10) (by omega) (by omega)
  go_simp
  exact hK
theorem st_rem10 (t d k : Nat) (he : s.tmps.getD t undef = .int .i64 (k : Int)) (hK : K (s.put (some d) (.int .i64 ((k % 10 : Nat) : Int))) x) {ty : TypeId} :
    Oper.wp Tryd.prog { dst := some d, op := .binOp .rem 3 (.tmp t) (.const (.int .i64 10)) 3, type := ty, pos := pos, after := af, guard := g } s x K Q := by
  have he2 : s.eval (.tmp t) = .int .i64 (k : Int) := he
  rw [Int.natCast_emod] at hK
  go_simp
  exact hK
theorem st_add48 (t d k : Nat) (hk : k < 200) (he : s.tmps.getD t undef = .int .i64 (k : Int)) (hK : K (s.put (some d) (.int .i64 (48 + (k : Int)))) x) {ty : TypeId} :
    Oper.wp Tryd.prog { dst := some d, op := .binOp .add 3 (.const (.int .i64 48)) (.tmp t) 3, type := ty, pos := pos, after := af, guard := g } s x K Q := by
  have he2 : s.eval (.tmp t) = .int .i64 (k : Int) := he
  have hw := wrap_s (48 + (k : Int)) (by omega) (by omega)
  go_simp
  exact hK
theorem st_conv8 (t d k : Nat) (hk : k < 200) (he : s.tmps.getD t undef = .int .i64 (48 + (k : Int))) (hK : K (s.put (some d) (.int .u8 (48 + (k : Int)))) x) {ty : TypeId} :
    Oper.wp Tryd.prog { dst := some d, op := .convert 3 5 (.tmp t), type := ty, pos := pos, after := af, guard := g } s x K Q := by
  have he2 : s.eval (.tmp t) = .int .i64 (48 + (k : Int)) := he
  have hw : IntKind.u8.wrap (48 + (k : Int)) = 48 + (k : Int) := by simp [IntKind.wrap, IntKind.bits, IntKind.signed]; omega
  go_simp
  exact hK
theorem st_build1 (t d : Nat) (c : Int) (he : s.tmps.getD t undef = .int .u8 c) (hK : K (s.put (some d) (.slice (some ⟨x.heap.size, 0, none⟩) 1 1)) (x.alloc (.cells #[.int .u8 c] 5))) {ty : TypeId} :
    Oper.wp Tryd.prog { dst := some d, op := .buildSlice 32 1 #[(0, .tmp t)], type := ty, pos := pos, after := af, guard := g } s x K Q := by
  have he2 : s.eval (.tmp t) = .int .u8 c := he
  have he3 : s.tmps[t]?.getD undef = .int .u8 c := by rw [← Array.getD_eq_getD_getElem?]; exact he
  go_simp
  exact hK
/-- a slice of one byte -/
def One (c : Int) (v : Value) (x : World) : Prop := ∃ b, v = .slice (some ⟨b, 0, none⟩) 1 1 ∧ x.rowIs b 5 1 (fun _ => .int .u8 c)
theorem One.below {c : Int} {v : Value} {x x' : World} (h : One c v x) (hb : Below x.heap.size x x') : One c v x' := by
  obtain ⟨b, h1, h2⟩ := h
  exact ⟨b, h1, row_below h2 hb⟩
theorem st_conv1 (t d : Nat) (c : Int) (he : One c (s.tmps.getD t undef) x) (hK : K (s.put (some d) (.string ⟨#[UInt8.ofNat c.toNat]⟩)) x) {ty : TypeId} :
    Oper.wp Tryd.prog { dst := some d, op := .convert 32 9 (.tmp t), type := ty, pos := pos, after := af, guard := g } s x K Q := by
  obtain ⟨b, he, hr⟩ := he
  have he2 : s.eval (.tmp t) = .slice (some ⟨b, 0, none⟩) 1 1 := he
  have h := run_convert_bytes_arg (P := Tryd.prog) x 32 5 (by kernel_rfl) (by kernel_rfl) b 0 1 1 [c] rfl (fun i hi => by
    obtain rfl : i = 0 := by omega
    exact hr.cell (by omega)) 9 (by kernel_rfl)
  have h2 : (convert 32 9 (.slice (some ⟨b, 0, none⟩) 1 1)).run Tryd.prog x = .ok (.string ⟨#[UInt8.ofNat c.toNat]⟩) x := h
  clear h
  go_simp
  exact hK
theorem st_cat (t u d : Nat) (a b : ByteArray) (ha : a.size ≤ 2000) (hb : b.size ≤ 2000) (he : s.tmps.getD t undef = .string a) (hu : s.tmps.getD u undef = .string b) (hK : K (s.put (some d) (.string (a ++ b))) x) {ty : TypeId} :
    Oper.wp Tryd.prog { dst := some d, op := .binOp .add 9 (.tmp t) (.tmp u) 9, type := ty, pos := pos, after := af, guard := g } s x K Q := by
  have he2 : s.eval (.tmp t) = .string a := he
  have hu2 : s.eval (.tmp u) = .string b := hu
  go_simp
  rw [if_neg (by omega)]
  exact hK
end
theorem dcs_ten (k : Nat) (h1 : 10 ≤ k) (h2 : k < 20) : dcs k = dcs 1 ++ ⟨#[UInt8.ofNat (48 + ((k % 10 : Nat) : Int)).toNat]⟩ := by
  rcases (by omega : k = 10 ∨ k = 11 ∨ k = 12 ∨ k = 13 ∨ k = 14 ∨ k = 15 ∨ k = 16 ∨ k = 17 ∨ k = 18 ∨ k = 19) with rfl | rfl | rfl | rfl | rfl | rfl | rfl | rfl | rfl | rfl <;> rfl
set_option maxRecDepth 100000 in
set_option maxHeartbeats 2000000 in
theorem dec_ten_any (k : Nat) (h1 : 10 ≤ k) (h2 : k < 20) (w : World) : Calls Tryd.prog 36 #[.int .i64 (k : Int)] w fun e w' => e = .returned (.string (dcs k)) ∧ Below w.heap.size w w' := by
  obtain ⟨a, HA⟩ : ∃ a, Hid (a = dcs 1) := ⟨_, rfl⟩
  obtain ⟨c, HC⟩ : ∃ c : Int, Hid (c = 48 + ((k % 10 : Nat) : Int)) := ⟨_, rfl⟩
  obtain ⟨b, HB⟩ : ∃ b : ByteArray, Hid (b = ⟨#[UInt8.ofNat c.toNat]⟩) := ⟨_, rfl⟩
  have HR : Hid (dcs k = a ++ b) := by show _ = _; rw [HA.out, HB.out, HC.out]; exact dcs_ten k h1 h2
  have hq : k / 10 = 1 := by omega
  have HDC : Hid (∀ w, Calls Tryd.prog 36 #[.int .i64 ((k / 10 : Nat) : Int)] w fun e w' => e = .returned (.string a) ∧ Below w.heap.size w w') := fun w => by rw [hq, HA.out]; exact dec_small_any 1 (by omega) w
  have hz : a.size ≤ 2000 := by rw [HA.out]; decide
  have hz2 : b.size ≤ 2000 := by rw [HB.out]; show 1 ≤ 2000; omega
  have HZ : Hid (a.size ≤ 2000 ∧ b.size ≤ 2000) := ⟨hz, hz2⟩
  clear hz hz2 hq
  go_enter Tryd.func36, Tryd.ntmps36
  go_wp2
  refine wp_region_pred (by kernel_rfl) (fun x => Below w.heap.size w x) (fun _ x x' => Below x.heap.size x x') [(some 11, fun v _ => v = .int .i64 (k : Int)), (some 12, fun v _ => v = .int .i64 ((k / 10 : Nat) : Int)), (some 13, fun v _ => v = .string a), (some 14, fun v _ => v = .int .i64 (k : Int)), (some 15, fun v _ => v = .int .i64 ((k % 10 : Nat) : Int)), (some 16, fun v _ => v = .int .i64 (48 + ((k % 10 : Nat) : Int))), (some 17, fun v _ => v = .int .u8 c), (some 18, fun v x => One c v x), (some 19, fun v _ => v = .string b), (some 20, fun v _ => v = .string (a ++ b)), (some 2, fun v _ => v = .string (a ++ b))] (by kernel_rfl) rfl (by kernel_rfl) (by kernel_rfl) (Below.refl _ w).drew [(0, .int .i64 (k : Int))] (by intro p hp; simp only [List.mem_cons, List.not_mem_nil, or_false] at hp; rcases hp with rfl <;> rfl) (by kernel_rfl) ?_ ?_ ?_
  · as_aux_lemma =>
    intro i j d T h hij v x x' hs hr ht
    have hj : j < 11 := (List.getElem?_eq_some_iff.1 h).1
    rcases p11 hj with rfl | rfl | rfl | rfl | rfl | rfl | rfl | rfl | rfl | rfl | rfl <;> obtain ⟨rfl, rfl⟩ := Prod.mk.inj (Option.some.inj (show some (_, _) = some (d, T) from h)) <;> (first | exact ht | exact ht.below hr)
  · as_aux_lemma =>
    intro i o d T ho ht s x hs hb hdep
    have hi : i < 11 := (Array.getElem?_eq_some_iff.1 ho).1
    rcases p11 hi with rfl | rfl | rfl | rfl | rfl | rfl | rfl | rfl | rfl | rfl | rfl
    · obtain rfl := Option.some.inj (show some _ = some o from ho)
      obtain ⟨rfl, rfl⟩ := Prod.mk.inj (Option.some.inj (show some (_, _) = some (d, T) from ht))
      exact ⟨want_none rfl, fun K hK => st_move 0 11 _ (hb _ (List.Mem.head _)) (hK _ x hs (Below.refl _ _) (fun h => by cases h) rfl)⟩
    · obtain rfl := Option.some.inj (show some _ = some o from ho)
      obtain ⟨rfl, rfl⟩ := Prod.mk.inj (Option.some.inj (show some (_, _) = some (d, T) from ht))
      exact ⟨want_none rfl, fun K hK => st_quo10 11 12 k (by omega) (hdep ⟨0, .data⟩ (by simp) rfl _ _ rfl) (hK _ x hs (Below.refl _ _) (fun h => by cases h) rfl)⟩
    · obtain rfl := Option.some.inj (show some _ = some o from ho)
      obtain ⟨rfl, rfl⟩ := Prod.mk.inj (Option.some.inj (show some (_, _) = some (d, T) from ht))
      exact ⟨want_none rfl, fun K hK => st_call own_decimal (ev1 (hdep ⟨1, .data⟩ (by simp) rfl _ _ rfl)) (HDC.out x) fun e x' h => by obtain ⟨rfl, hb1⟩ := h; exact ⟨_, rfl, hK _ x' (bcall hs hb1) hb1 (fun h => by cases h) rfl⟩⟩
    · obtain rfl := Option.some.inj (show some _ = some o from ho)
      obtain ⟨rfl, rfl⟩ := Prod.mk.inj (Option.some.inj (show some (_, _) = some (d, T) from ht))
      exact ⟨want_none rfl, fun K hK => st_move 0 14 _ (hb _ (List.Mem.head _)) (hK _ x hs (Below.refl _ _) (fun h => by cases h) rfl)⟩
    · obtain rfl := Option.some.inj (show some _ = some o from ho)
      obtain ⟨rfl, rfl⟩ := Prod.mk.inj (Option.some.inj (show some (_, _) = some (d, T) from ht))
      exact ⟨want_none rfl, fun K hK => st_rem10 14 15 k (hdep ⟨3, .data⟩ (by simp) rfl _ _ rfl) (hK _ x hs (Below.refl _ _) (fun h => by cases h) rfl)⟩
    · obtain rfl := Option.some.inj (show some _ = some o from ho)
      obtain ⟨rfl, rfl⟩ := Prod.mk.inj (Option.some.inj (show some (_, _) = some (d, T) from ht))
      exact ⟨want_none rfl, fun K hK => st_add48 15 16 (k % 10) (by omega) (hdep ⟨4, .data⟩ (by simp) rfl _ _ rfl) (hK _ x hs (Below.refl _ _) (fun h => by cases h) rfl)⟩
    · obtain rfl := Option.some.inj (show some _ = some o from ho)
      obtain ⟨rfl, rfl⟩ := Prod.mk.inj (Option.some.inj (show some (_, _) = some (d, T) from ht))
      exact ⟨want_none rfl, fun K hK => st_conv8 16 17 (k % 10) (by omega) (hdep ⟨5, .data⟩ (by simp) rfl _ _ rfl) (hK _ x hs (Below.refl _ _) (fun h => by cases h) (by rw [HC.out]))⟩
    · obtain rfl := Option.some.inj (show some _ = some o from ho)
      obtain ⟨rfl, rfl⟩ := Prod.mk.inj (Option.some.inj (show some (_, _) = some (d, T) from ht))
      exact ⟨want_none rfl, fun K hK => st_build1 17 18 c (hdep ⟨6, .data⟩ (by simp) rfl _ _ rfl) (hK _ _ (bal hs _) (bal (Below.refl _ _) _) (fun h => by cases h) ⟨_, rfl, World.rowIs_alloc x _ 5 _ fun i hi => by obtain rfl : i = 0 := (by simpa using hi); rfl⟩)⟩
    · obtain rfl := Option.some.inj (show some _ = some o from ho)
      obtain ⟨rfl, rfl⟩ := Prod.mk.inj (Option.some.inj (show some (_, _) = some (d, T) from ht))
      exact ⟨want_none rfl, fun K hK => st_conv1 18 19 c (hdep ⟨7, .data⟩ (by simp) rfl _ _ rfl) (hK _ x hs (Below.refl _ _) (fun h => by cases h) (by rw [HB.out]))⟩
    · obtain rfl := Option.some.inj (show some _ = some o from ho)
      obtain ⟨rfl, rfl⟩ := Prod.mk.inj (Option.some.inj (show some (_, _) = some (d, T) from ht))
      exact ⟨want_none rfl, fun K hK => st_cat 13 19 20 a b HZ.out.1 HZ.out.2 (hdep ⟨2, .data⟩ (by simp) rfl _ _ rfl) (hdep ⟨8, .data⟩ (by simp) rfl _ _ rfl) (hK _ x hs (Below.refl _ _) (fun h => by cases h) rfl)⟩
    · obtain rfl := Option.some.inj (show some _ = some o from ho)
      obtain ⟨rfl, rfl⟩ := Prod.mk.inj (Option.some.inj (show some (_, _) = some (d, T) from ht))
      exact ⟨want_none rfl, fun K hK => st_assign 20 2 _ (hdep ⟨9, .data⟩ (by simp) rfl _ _ rfl) (hK _ x hs (Below.refl _ _) (fun h => by cases h) rfl)⟩
  · intro vs x hs hl hT
    obtain ⟨v0, v1, v2, v3, v4, v5, v6, v7, v8, v9, v10, rfl⟩ := len11 hl
    have h0 : (fun v _ => v = .int .i64 (k : Int)) v0 x := hT 0 _ _ rfl
    have h1 : (fun v _ => v = .int .i64 ((k / 10 : Nat) : Int)) v1 x := hT 1 _ _ rfl
    have h2 : (fun v _ => v = .string a) v2 x := hT 2 _ _ rfl
    have h3 : (fun v _ => v = .int .i64 (k : Int)) v3 x := hT 3 _ _ rfl
    have h4 : (fun v _ => v = .int .i64 ((k % 10 : Nat) : Int)) v4 x := hT 4 _ _ rfl
    have h5 : (fun v _ => v = .int .i64 (48 + ((k % 10 : Nat) : Int))) v5 x := hT 5 _ _ rfl
    have h6 : (fun v _ => v = .int .u8 c) v6 x := hT 6 _ _ rfl
    have h7 : (fun v x => One c v x) v7 x := hT 7 _ _ rfl
    have h8 : (fun v _ => v = .string b) v8 x := hT 8 _ _ rfl
    have h9 : (fun v _ => v = .string (a ++ b)) v9 x := hT 9 _ _ rfl
    have h10 : (fun v _ => v = .string (a ++ b)) v10 x := hT 10 _ _ rfl
    clear hl hT
    simp only [zipo, fill, List.foldl, Act.put, List.setIfInBounds_toArray, List.set_cons_zero, List.set_cons_succ]
    subst h10
    go_wp2
    go_ret
    exact ⟨by rw [HR.out]; rfl, hs⟩
theorem dec_any (k : Nat) (h : k < 20) (w : World) : Calls Tryd.prog 36 #[.int .i64 (k : Int)] w fun e w' => e = .returned (.string (dcs k)) ∧ Below w.heap.size w w' := by
  by_cases h1 : k < 10
  · exact dec_small_any k h1 w
  · exact dec_ten_any k (by omega) h w
end cin
end Go.Proofs.YtohoajjdoihekaaDoor
