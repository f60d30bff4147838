import Derived.Test.YtohoajjdoihekaaGreatDoorTzc
import Derived.Deep.RegionLaw
import Derived.ArgAppend
set_option linter.unusedVariables false
set_option linter.unusedSimpArgs false
namespace Go.Proofs.YtohoajjdoihekaaGreatDoor
namespace cin
section
open Go.RowKit
set_option maxHeartbeats 8000000
set_option maxRecDepth 100000
structure Kb (S : List Nat) (w w' : World) : Prop where
 os : w'.os = w.os
 tape : w'.tape = w.tape
 output : w'.output = w.output
 size : w.heap.size ≤ w'.heap.size
 block : ∀ k, k < w.heap.size → k ∉ S → w'.heap[k]? = w.heap[k]?
theorem Kb.refl (S : List Nat) (w : World) : Kb S w w := ⟨rfl, rfl, rfl, Nat.le_refl _, fun _ _ _ => rfl⟩
theorem Kb.trans {S T : List Nat} {a b c : World} (h : Kb S a b) (k : Kb T b c) (hT : ∀ i ∈ T, i ∈ S ∨ a.heap.size ≤ i) : Kb S a c :=
 ⟨k.os.trans h.os, k.tape.trans h.tape, k.output.trans h.output, Nat.le_trans h.size k.size, fun i hi hS => (k.block i (Nat.lt_of_lt_of_le hi h.size) (fun hT' => by rcases hT i hT' with h1 | h1; exact hS h1; omega)).trans (h.block i hi hS)⟩
theorem Kb.mono {S T : List Nat} {a b : World} (h : Kb S a b) (hT : ∀ i ∈ S, i ∈ T) : Kb T a b := ⟨h.os, h.tape, h.output, h.size, fun i hi hn => h.block i hi (fun k => hn (hT i k))⟩
theorem Kb.of_below {S : List Nat} {a b : World} (h : Below a.heap.size a b) : Kb S a b := ⟨h.os, h.tape, h.output, h.size, fun i hi _ => h.block i hi⟩
theorem Kb.to_below {a b : World} (h : Kb [] a b) : Below a.heap.size a b := ⟨h.os, h.tape, h.output, h.size, fun i hi => h.block i hi (by simp)⟩
theorem Kb.below {S : List Nat} {a b c : World} (h : Kb S a b) (k : Below b.heap.size b c) : Kb S a c := h.trans (Kb.of_below (S := []) k) (by simp)
theorem Kb.alloc {S : List Nat} {a b : World} (h : Kb S a b) (o : Obj) : Kb S a (b.alloc o) := h.below (bal (Below.refl _ _) o)
theorem Kb.drew {S : List Nat} {a b : World} (h : Kb S a b) : Kb S a b.drew := ⟨h.os, h.tape, h.output, h.size, h.block⟩
theorem Kb.setCell {S : List Nat} {a b : World} (h : Kb S a b) {p : Addr} (hp : p.block ∈ S ∨ a.heap.size ≤ p.block) (u : Value) : Kb S a (b.setCell p u) :=
 h.trans (T := [p.block]) ⟨rfl, rfl, rfl, by simp [World.setCell], fun k _ hk => Below.heap_setCell _ _ _ _ (by simpa using hk)⟩ (by simpa using hp)
theorem Kb.setRow {S : List Nat} {a b : World} (h : Kb S a b) {g : Nat} (hg : g ∈ S ∨ a.heap.size ≤ g) (cs : Array Value) : Kb S a (b.setRow g cs) :=
 h.trans (T := [g]) ⟨rfl, rfl, rfl, by simp [World.setRow], fun k _ hk => setRow_other b g k cs (by simpa using hk)⟩ (by simpa using hg)
theorem Kb.grown {S : List Nat} {a b c : World} {row : Option Nat} (h : Kb S a b) (hg : b.grownBy c row) (hr : ∀ k, row = some k → k ∈ S ∨ a.heap.size ≤ k) : Kb S a c :=
 h.trans (T := row.toList) ⟨hg.os, hg.tape, hg.output, hg.size, fun k hk hn => hg.block k hk (fun e => hn (by rw [← e]; simp))⟩ (fun i hi => hr i (by simpa using hi))
theorem Kb.row {S : List Nat} {a b : World} (h : Kb S a b) {g n : Nat} {t : TypeId} {f : Nat → Value} (hr : a.rowIs g t n f) (hg : g ∉ S) : b.rowIs g t n f := hr.of_block (h.block g hr.lt hg)
theorem Kb.own {S : List Nat} {a b : World} (h : Kb S a b) {base e size n : Nat} {v : Value} {xs : List Value} (ho : a.ownsRow base e size v n xs) (hv : ∀ k, v.ownBlock = some k → k ∉ S) : b.ownsRow base e size v n xs := by
 refine ⟨ho.1, ?_⟩
 rcases ho.2 with h1 | ⟨g, cap, cur, h1, h2, h3, h4⟩
 ·exact Or.inl h1
 ·exact Or.inr ⟨g, cap, cur, h1, h2, (h.block g (lt_of_block h3) (hv g (by rw [h1]; rfl))).trans h3, h4⟩
def wcells (l : List Nat) : List Value := l.flatMap fun n => [.int .u64 (limb n 0), .int .u64 (limb n 1), .int .u64 (limb n 2), .int .u64 (limb n 3)]
theorem wcells_snoc (l : List Nat) (n : Nat) : wcells (l ++ [n]) = wcells l ++ [.int .u64 (limb n 0), .int .u64 (limb n 1), .int .u64 (limb n 2), .int .u64 (limb n 3)] := by simp [wcells]
theorem wcells_len (l : List Nat) : (wcells l).length = l.length * 4 := by
 induction l with
 | nil => rfl
 | cons n l ih => simp [wcells] at ih ⊢; omega
def Wds (w : World) (base : Nat) (v : Value) (l : List Nat) : Prop := w.ownsRow base 24 4 v l.length (wcells l)
theorem row_own_ne {w : World} {fb T N base e size n : Nat} {f : Nat → Value} {v : Value} {xs : List Value} (hr : w.rowIs fb T N f) (ho : w.ownsRow base e size v n xs) (hT : T ≠ e) : ∀ k, v.ownBlock = some k → k ≠ fb := by
 intro k hk e1
 subst e1
 obtain ⟨c, hb, _⟩ := hr
 rcases ho.2 with ⟨h1, _⟩ | ⟨g, cap, cur, h1, h2, h3, _⟩
 ·rw [h1] at hk; cases hk
 ·rw [h1] at hk
  obtain rfl : g = k := by simpa [Value.ownBlock] using hk
  rw [hb] at h3
  injection h3 with h3
  injection h3 with _ h4
  exact hT h4
structure Up (S : List Nat) (fb o : Nat) (v' : Value) (w w' : World) : Prop where
 kb : Kb (fb :: S) w w'
 row : ∀ {T N f}, w.rowIs fb T N f → w'.rowIs fb T N (fun i => if i = o then v' else f i)
theorem Up.mk' {S : List Nat} {fb o : Nat} {w x : World} (v' : Value) (h : Kb S w x) (hS : fb ∉ S) (hlt : fb < w.heap.size) : Up S fb o v' w (x.setCell ⟨fb, o, none⟩ v') :=
 ⟨(h.mono (fun i hi => List.mem_cons_of_mem _ hi)).setCell (Or.inl (by simp)) _, fun hr => (h.row hr hS).set o v'⟩
theorem own_set {w : World} {base e size n fb : Nat} {v : Value} {xs : List Value} (h : w.ownsRow base e size v n xs) (hne : ∀ k, v.ownBlock = some k → k ≠ fb) (o : Nat) (u : Value) : (w.setCell ⟨fb, o, none⟩ u).ownsRow base e size v n xs :=
 ((Kb.refl [fb] w).setCell (p := ⟨fb, o, none⟩) (Or.inl (by simp)) u).own h (fun k hk => by simpa using hne k hk)
def Pan (e : Ending) : Prop := ∃ (u : TypeId) (pv : Value), e = .panicked [{ v := .iface u pv, recovered := false }]
theorem info_wd : (Tryz.prog.info? 24).map (fun i => (i.zero, i.size, i.bytes)) = some (some (.agg #[.int .u64 0, .int .u64 0, .int .u64 0, .int .u64 0]), 4, 32) := by kernel_rfl
def Fresh (w : World) (v v' : Value) : Prop := v'.ownBlock = v.ownBlock ∨ ∀ k, v'.ownBlock = some k → w.heap.size ≤ k
theorem run_append_fresh {P : Program} (w : World) (base : Nat) (t ty e : TypeId) (i : TypeInfo) (z : Value) (size bytes : Nat) (ht : P.underlying t = some (.slice e)) (hi : P.info? e = some i) (hz : i.zero = some z)
  (hsize : i.size = size) (hby : i.bytes = bytes) (hzs : z.cells.size = size) (hsz : 0 < size)
  (v : Value) (n : Nat) (xs : List Value) (hown : w.ownsRow base e size v n xs)
  (a : Addr) (m c : Nat) (news : List Value) (hl : news.length = m * size) (hnews : ∀ j u, news[j]? = some u → w.cell? (a.add j) = some u) (h1 : ∀ u ∈ news, u.oneCell' = true)
  (h63 : n + m ≤ maxLen) (hbytes : (n + m) * bytes ≤ 140737488355328) (hbase : base ≤ w.heap.size) :
  ∃ v' w', (Builtin.append_ #[t, t] ty #[v, .slice (some a) m c]).run P w = .ok v' w' ∧ w'.ownsRow base e size v' (n + m) (xs ++ news) ∧ w.grownBy w' v.ownBlock ∧ Fresh w v v' := by
 obtain ⟨v', w', hrun, ho, hg, hnil⟩ := run_append_own w base t ty e i z size bytes ht hi hz hsize hby hzs hsz v n xs hown a m c news hl hnews h1 h63 hbytes hbase
 refine ⟨v', w', hrun, ho, hg, ?_⟩
 rcases hown.2 with ⟨rfl, rfl⟩ | ⟨g, cap, cur, rfl, hb, hgb, hnc, hcm, hcs, htk⟩
 ·right
  obtain rfl : xs = [] := List.eq_nil_of_length_eq_zero (by simpa using hown.1)
  obtain ⟨v2, w2, hrun2, ho2, hg2, _⟩ := run_append_own w w.heap.size t ty e i z size bytes ht hi hz hsize hby hzs hsz (.slice none 0 0) 0 [] (World.ownsRow_nil w _ e size) a m c news hl hnews h1 h63 hbytes (Nat.le_refl _)
  rw [hrun] at hrun2
  injection hrun2 with e1 e2
  subst e1
  exact fun k hk => (ho2.lt k hk).1
 ·by_cases hr : n + m ≤ cap
  ·left
   subst hsize
   have hlt : ∀ j, j < news.length → n * i.size + j < cur.size := fun j hj => by
    rw [hcs]
    have : (n + m) * i.size ≤ cap * i.size := Nat.mul_le_mul_right _ hr
    rw [Nat.add_mul] at this
    omega
   have h2 := run_append_room_cells (P := P) w t ty e i ht hi g 0 n cap a m c news hl hnews h1 hr
    (fun j hj => by rw [Nat.zero_add, cell_of_row _ g _ cur e (0, 0) hgb]; simp [hlt j hj])
    (fun j hj => by simp [World.frozen?, hgb])
   rw [hrun] at h2
   injection h2 with e1 e2
   subst e1
   rfl
  ·right
   obtain ⟨v2, w2, hrun2, ho2, hg2⟩ := run_append_arg_grows (P := P) w t ty e i z size bytes ht hi hz hsize hby hzs hsz ⟨g, 0, none⟩ n cap xs hown.1 (hown.cells rfl) a m c news hl hnews (by omega) h63 hbytes
   rw [hrun] at hrun2
   injection hrun2 with e1 e2
   subst e1
   exact fun k hk => (ho2.lt k hk).1
theorem step_append_own {P : Program} {w : World} {ops : Array Oper} {o : Oper} {a : Act} {K : Act → World → Prop} {Q : Exit → Act → World → Prop} {E : Prop} (hgd : o.guard = none) (s x : Operand) (t : TypeId)
  (ho : o.op = .call { callee := .builtin .append, args := #[s, x], argTypes := #[t, t] })
  (base : Nat) (e : TypeId) (i : TypeInfo) (z : Value) (size bytes : Nat) (ht : P.underlying t = some (.slice e)) (hi : P.info? e = some i) (hz : i.zero = some z)
  (hsize : i.size = size) (hby : i.bytes = bytes) (hzs : z.cells.size = size) (hsz : 0 < size)
  (v : Value) (n : Nat) (xs : List Value) (hs : a.eval s = v) (hown : w.ownsRow base e size v n xs)
  (ad : Addr) (m c : Nat) (news : List Value) (hx : a.eval x = .slice (some ad) m c) (hl : news.length = m * size) (hnews : ∀ j u, news[j]? = some u → w.cell? (ad.add j) = some u) (h1 : ∀ u ∈ news, u.oneCell' = true)
  (h63 : n + m ≤ maxLen) (hbytes : (n + m) * bytes ≤ 140737488355328) (hbase : base ≤ w.heap.size)
  (h : ∀ v' w', w'.ownsRow base e size v' (n + m) (xs ++ news) → w.grownBy w' v.ownBlock → Fresh w v v' → K (a.put o.dst v') w') : if Region.wanted o (yielded ops a.tmps) = true then Oper.wp P o a w K Q else E := by
 rw [if_pos (want_none hgd)]
 obtain ⟨v', w', hrun, r1, r2, r3⟩ := run_append_fresh w base t o.type e i z size bytes ht hi hz hsize hby hzs hsz v n xs hown ad m c news hl hnews h1 h63 hbytes hbase
 unfold Oper.wp
 simp [execOp, ho, resolve, invoke, builtin, hs, hx, hrun, Result.andThen]
 exact h v' w' r1 r2 r3
theorem push_full {T N : Nat} {f : Nat → Value} (fb o n base : Nat) (l : List Nat) (v : Value) (w : World) (hr : w.rowIs fb T N f) (ho : o < N) (hv : f o = v) (hs : Wds w base v l) (hl : l.length = 1024) :
  Calls Tryz.prog 259 #[.pointer (some ⟨fb, o, none⟩), wv n] w fun e w' => Pan e ∧ Below w.heap.size w w' := by
 obtain ⟨ad, cap, rfl⟩ := own_sl hs
 rw [hl] at hv
 have hc1 : (w.alloc (wc n)).cell? ⟨fb, o, none⟩ = some (.slice ad 1024 cap) := ((bal (Below.refl _ w) (wc n)).cell (by exact hr.lt)).trans ((hr.cell ho).trans (congrArg some hv))
 clear hr hv hs
 go_enter Tryz.func259, Tryz.ntmps259
 go_wp2
 exact ⟨rfl, ⟨_, _, rfl⟩, bal (Below.refl _ _) _⟩
theorem push_ok {T N : Nat} {f : Nat → Value} (fb o n base : Nat) (l : List Nat) (v : Value) (w : World) (hr : w.rowIs fb T N f) (ho : o < N) (hv : f o = v) (hT : T ≠ 24) (hs : Wds w base v l) (hl : l.length < 1024) (hb : base ≤ w.heap.size) :
  Calls Tryz.prog 259 #[.pointer (some ⟨fb, o, none⟩), wv n] w fun e w' => e = .returned (.tuple #[]) ∧ ∃ v', Wds w' base v' (l ++ [n]) ∧ Fresh w v v' ∧ Up v.ownBlock.toList fb o v' w w' := by
 have hlt := hr.lt
 have hc : w.cell? ⟨fb, o, none⟩ = some v := (hr.cell ho).trans (congrArg some hv)
 have hz : w.frozen? ⟨fb, o, none⟩ = false := hr.frozen o
 have hfb := row_own_ne hr hs hT
 have HR := hid_of hr
 have HT := hid_of hT
 clear hr hv hT ho
 obtain ⟨i0, hi0, hz0, hz1, hz2⟩ := info_parts info_wd
 have HI := hid_of (And.intro hi0 (And.intro hz0 (And.intro hz1 hz2)))
 clear hi0 hz0 hz1 hz2
 obtain ⟨ad, cp, rfl⟩ := own_sl hs
 have hc1 : (w.alloc (wc n)).cell? ⟨fb, o, none⟩ = some (.slice ad l.length cp) := ((bal (Below.refl _ w) (wc n)).cell (by exact hlt)).trans hc
 have hne : ((l.length : Int) == 1024) = false := by simp; omega
 have HB1 : Hid (Below w.heap.size w ((w.alloc (wc n)).drew.alloc (wc n))) := bal (bal (Below.refl _ w) _).drew _
 have hc2 : ((w.alloc (wc n)).drew.alloc (wc n)).cell? ⟨fb, o, none⟩ = some (.slice ad l.length cp) := (HB1.out.cell (by exact hlt)).trans hc
 have HS : Hid (Wds ((w.alloc (wc n)).drew.alloc (wc n)) base (.slice ad l.length cp) l) := ownsRow_below hs HB1.out
 have HC := hid_of hc
 have HZ := hid_of hz
 have HF := hid_of hfb
 have HLT := hid_of hlt
 have HLC : Hid (∀ j u, [Value.int .u64 (limb n 0), .int .u64 (limb n 1), .int .u64 (limb n 2), .int .u64 (limb n 3)][j]? = some u → ((w.alloc (wc n)).drew.alloc (wc n)).cell? ((⟨w.heap.size + 1, 0, none⟩ : Addr).add j) = some u) := by
  have h := lit_cells (w.alloc (wc n)).drew #[.int .u64 (limb n 0), .int .u64 (limb n 1), .int .u64 (limb n 2), .int .u64 (limb n 3)] 24
  rw [show (w.alloc (wc n)).drew.heap.size = w.heap.size + 1 by simp] at h
  exact h
 clear hs hc hz hfb
 go_enter Tryz.func259, Tryz.ntmps259
 go_wp2
 go_region_law (obtain ⟨hi0, hz0, hz1, hz2⟩ := HI.out; refine step_append_own rfl (.tmp 13) (.tmp 15) 135 rfl base 24 i0 (.agg #[.int .u64 0, .int .u64 0, .int .u64 0, .int .u64 0]) 4 32 (by kernel_rfl) hi0 hz0 hz1 hz2 rfl (by decide) (.slice ad l.length cp) l.length (wcells l) rfl HS.out ⟨w.heap.size + 1, 0, none⟩ 1 1 [.int .u64 (limb n 0), .int .u64 (limb n 1), .int .u64 (limb n 2), .int .u64 (limb n 3)] rfl rfl HLC.out (by intro u hu; simp at hu; rcases hu with rfl | rfl | rfl | rfl <;> rfl) (by unfold maxLen; omega) (by omega) (by simp; omega) ?_; intro v' x ho hgr hfr; obtain ⟨g', cap', rfl, hg1, hg2, hg3⟩ := own_shape ho (by omega); have hxb := hgr.block fb (Nat.lt_of_lt_of_le HLT.out HB1.out.size) (fun e => HF.out fb e.symm rfl); have hcx : x.cell? ⟨fb, o, none⟩ = some (.slice ad l.length cp) := (World.cell?_of_block hxb).trans hc2; have hzx : x.frozen? ⟨fb, o, none⟩ = false := (World.frozen?_of_block hxb).trans ((HB1.out.frozen (by exact HLT.out)).trans HZ.out); have HO := hid_of ho; have HG := hid_of hgr; have HFR := hid_of hfr; clear hfr ho hgr hxb hg1 hg2 hg3 hi0 hz0 hz1 hz2)
 all_goals go_wp2
 all_goals go_end0
 all_goals (
  have hkb := (Kb.of_below (S := (Value.slice ad l.length cp).ownBlock.toList) (bal (bal (Below.refl _ w) _) _)).drew.grown HG.out (fun k hk => Or.inl (by rw [hk]; simp))
  have hni : fb ∉ (Value.slice ad l.length cp).ownBlock.toList := fun hm => HF.out fb (by simpa using hm) rfl
  have ho : Wds x base (.slice (some ⟨g', 0, none⟩) (l.length + 1) cap') (l ++ [n]) := by unfold Wds; rw [List.length_append, wcells_snoc]; exact HO.out
  exact ⟨rfl, _, own_set ho (row_own_ne (hkb.row HR.out hni) ho HT.out) o _, HFR.out.imp id (fun h k hk => Nat.le_trans HB1.out.size (h k hk)), Up.mk' _ hkb hni HLT.out⟩)
end
section
open Go.RowKit Go.Maps
set_option maxHeartbeats 8000000
set_option maxRecDepth 100000
theorem ty_acc : Tryz.prog.underlying 89 = some (.map 24 95) := by kernel_rfl
theorem ty_slt : Tryz.prog.underlying 93 = some (.map 24 24) := by kernel_rfl
abbrev accC (bal : Nat) (code : ByteArray) (sv : Value) : Array Value := #[.int .u64 (limb bal 0), .int .u64 (limb bal 1), .int .u64 (limb bal 2), .int .u64 (limb bal 3), .string code, sv]
abbrev accV (bal : Nat) (code : ByteArray) (sv : Value) : Value := .agg (accC bal code sv)
abbrev noAcc : Value := .agg #[.int .u64 0, .int .u64 0, .int .u64 0, .int .u64 0, .string ⟨#[]⟩, .map none]
theorem zero_acc (w : World) : (zeroValue 95).run Tryz.prog w = .ok noAcc w := by kernel_rfl
theorem zero_wdv (w : World) : (zeroValue 24).run Tryz.prog w = .ok (.agg #[.int .u64 0, .int .u64 0, .int .u64 0, .int .u64 0]) w := by kernel_rfl
section
variable {ops : Array Oper} {rest : List Oper} {o : Oper} {a : Act} {Q : Exit → Act → World → Prop}
theorem wpList_update_am (w : World) (hg : o.guard = none) (m x v : Operand) (t : TypeId) (hop : o.op = Op.mapUpdate t m x v) (et : TypeId) (ht : Tryz.prog.underlying t = some (.map 24 et)) (b n : Nat) (f : Nat → Option Value)
  (hm : a.eval m = .map (some b)) (hown : AM w b n f) (hn : n < maxLen) (k : Nat) (val : Value) (hx : a.eval x = wv k) (hv : a.eval v = val)
  (hK : ∀ w', AM w' b (n + 1) (fun m => if m % M = k % M then some val else f m) → w.mapTurned w' b → wpList Tryz.prog ops Q rest (a.put o.dst undef) w') :
  wpList Tryz.prog ops Q (o :: rest) a w := by
 refine wpList_plain hg fun K' hK' => ?_
 obtain ⟨w', hrun, r1, r2⟩ := hown.store ht hn k val
 unfold Oper.wp
 simp [execOp, hop, hm, hx, hv, hrun, Result.andThen]
 exact hK' _ _ (hK w' r1 r2)
theorem wpList_delete_am (w : World) (hg : o.guard = none) (m x : Operand) (t : TypeId) (hop : o.op = Op.call { callee := Callee.builtin Builtin.delete, args := #[m, x], argTypes := #[t, 24] }) (et : TypeId) (ht : Tryz.prog.underlying t = some (.map 24 et)) (b n : Nat) (f : Nat → Option Value)
  (hm : a.eval m = .map (some b)) (hown : AM w b n f) (k : Nat) (hx : a.eval x = wv k)
  (hK : ∀ w', AM w' b n (fun m => if m % M = k % M then none else f m) → w.mapTurned w' b → wpList Tryz.prog ops Q rest (a.put o.dst (.tuple #[])) w') :
  wpList Tryz.prog ops Q (o :: rest) a w := by
 refine wpList_plain hg fun K' hK' => ?_
 obtain ⟨w', hrun, r1, r2⟩ := hown.drop ht k o.type
 unfold Oper.wp
 simp [execOp, hop, resolve, invoke, builtin, hm, hx, hrun, Result.andThen]
 exact hK' _ _ (hK w' r1 r2)
end
theorem turned_Kb {x y : World} {b : Nat} (h : x.mapTurned y b) : Kb [b] x y := by
 obtain ⟨h1, h2, h3, h4, h5⟩ := turned_kb h
 exact ⟨h1, h2, h3, h4, fun k hk hn => h5 k hk (by simpa using hn)⟩
theorem AM.kb {S : List Nat} {x y : World} {b n : Nat} {f : Nat → Option Value} (h : AM x b n f) (hk : Kb S x y) (hb : b ∉ S) : AM y b n f := h.block (hk.block b h.lt hb)
def NoSlots (w : World) (sv : Value) : Prop := sv = .map none ∨ ∃ b n f, sv = .map (some b) ∧ AM w b n f ∧ ∀ m, f m = none
def SomeSlots (w : World) (sv : Value) : Prop := ∃ b n f, sv = .map (some b) ∧ n < 9223372036854775807 ∧ AM w b n f ∧ ¬ ∀ m, f m = none
theorem empty_str (s : ByteArray) : s.toList.isEmpty = decide (s = ⟨#[]⟩) := by
 rw [Go.ByteArray.toList_eq, Bool.eq_iff_iff, decide_eq_true_eq, List.isEmpty_iff]
 constructor
 ·intro h
  cases s with
  | mk d => exact congrArg ByteArray.mk (by simpa using h)
 ·intro h
  rw [h]
theorem len_slots {w : World} {sv : Value} (h : NoSlots w sv) (ty : TypeId) : (Builtin.len_ #[93] ty #[sv]).run Tryz.prog w = .ok (.int .i64 0) w := by
 rcases h with rfl | ⟨b, n, f, rfl, h, hf⟩
 ·exact Maps.len_nil ty_slt ty
 ·obtain ⟨s, hr, _, hs⟩ := h.len ty_slt ty
  rw [hr, hs.2 hf]
  rfl
theorem len_slots' {w : World} {sv : Value} (h : SomeSlots w sv) (ty : TypeId) : ∃ s : Nat, (Builtin.len_ #[93] ty #[sv]).run Tryz.prog w = .ok (.int .i64 (s : Int)) w ∧ ((s : Int) == 0) = false := by
 obtain ⟨b, n, f, rfl, hn, h, hf⟩ := h
 obtain ⟨s, hr, _, hs⟩ := h.len ty_slt ty
 refine ⟨s, hr, ?_⟩
 have : s ≠ 0 := fun e => hf (hs.1 e)
 simp [this]
theorem eqz_t {n : Nat} (h : n % M = 0) : eqw n 0 = true := by unfold eqw; rw [h]; rfl
theorem eqz_f {n : Nat} (h : n % M ≠ 0) : eqw n 0 = false := by unfold eqw; exact decide_eq_false (by simpa using h)
abbrev putW (w : World) (at' amt : Nat) (code : ByteArray) (sv : Value) : World := (w.alloc (wc at')).alloc (.cells (accC amt code sv) 95)
theorem put_below (w : World) (at' amt : Nat) (code : ByteArray) (sv : Value) : Below w.heap.size w (putW w at' amt code sv) := bal (bal (Below.refl _ w) _) _
def Zr (w : World) : Prop := (w.cell? ⟨0, 0, none⟩ = some (.int .u64 0) ∧ w.cell? ⟨0, 1, none⟩ = some (.int .u64 0) ∧ w.cell? ⟨0, 2, none⟩ = some (.int .u64 0) ∧ w.cell? ⟨0, 3, none⟩ = some (.int .u64 0)) ∧ 0 < w.heap.size
theorem Zr.kb {S : List Nat} {w w' : World} (h : Zr w) (hk : Kb S w w') (h0 : 0 ∉ S) : Zr w' := by
 have e := hk.block 0 h.2 h0
 obtain ⟨⟨z0, z1, z2, z3⟩, z4⟩ := h
 exact ⟨⟨(World.cell?_of_block (w := w) e).trans z0, (World.cell?_of_block (w := w) e).trans z1, (World.cell?_of_block (w := w) e).trans z2, (World.cell?_of_block (w := w) e).trans z3⟩, Nat.lt_of_lt_of_le z4 hk.size⟩
theorem Zr.below {w w' : World} (h : Zr w) (hk : Below w.heap.size w w') : Zr w' := h.kb (Kb.of_below (S := []) hk) (by simp)
theorem NoSlots.kb {S : List Nat} {w w' : World} {sv : Value} (h : NoSlots w sv) (hk : Kb S w w') (hS : ∀ k, sv = .map (some k) → k ∉ S) : NoSlots w' sv := by
 rcases h with rfl | ⟨b, n, f, rfl, h, hf⟩
 ·exact Or.inl rfl
 ·exact Or.inr ⟨b, n, f, rfl, h.kb hk (hS b rfl), hf⟩
theorem SomeSlots.kb {S : List Nat} {w w' : World} {sv : Value} (h : SomeSlots w sv) (hk : Kb S w w') (hS : ∀ k, sv = .map (some k) → k ∉ S) : SomeSlots w' sv := by
 obtain ⟨b, n, f, rfl, hn, h, hf⟩ := h
 exact ⟨b, n, f, rfl, hn, h.kb hk (hS b rfl), hf⟩
theorem emp_t : (⟨#[]⟩ : ByteArray).toList.isEmpty = true := by rw [empty_str]; simp
theorem emp_f {s : ByteArray} (h : s ≠ ⟨#[]⟩) : s.toList.isEmpty = false := by rw [empty_str]; simpa using h
theorem put_none {b n : Nat} {f : Nat → Option Value} (at' amt : Nat) (sv : Value) (w : World) (h : AM w b n f) (hb : amt % M = 0) (hs : NoSlots w sv) (hz : Zr w) :
  Calls Tryz.prog 81 #[.map (some b), wv at', accV amt ⟨#[]⟩ sv] w fun e w' => e = .returned (.tuple #[]) ∧ AM w' b n (fun m => if m % M = at' % M then none else f m) ∧ Kb [b] w w' := by
 have hB := put_below w at' amt ⟨#[]⟩ sv
 have HA : Hid (AM (putW w at' amt ⟨#[]⟩ sv) b n f) := h.kb (Kb.of_below (S := []) hB) (by simp)
 obtain ⟨⟨z0, z1, z2, z3⟩, _⟩ := hz.below hB
 have hl := len_slots (hs.kb (Kb.of_below (S := []) hB) (by simp))
 have hez := eq_zero amt
 rw [eqz_t hb] at hez
 have HB := hid_of hB
 have he := emp_t
 clear h hb hs hz hB
 go_enter Tryz.func81, Tryz.ntmps81
 go_wp2_with (first | (at_delete; refine wpList_delete_am _ rfl _ _ 89 rfl _ ty_acc b n f rfl HA.out at' rfl ?_; intro w1 hA hT) | go_in)
 go_wp2
 refine bodyPost_ret (results_none rfl _ _ _) rfl ?_
 exact ⟨rfl, hA, (Kb.of_below HB.out).trans (turned_Kb hT) (by simp)⟩
theorem put_bal {b n : Nat} {f : Nat → Option Value} (at' amt : Nat) (code : ByteArray) (sv : Value) (w : World) (h : AM w b n f) (hn : n < maxLen) (hb : amt % M ≠ 0) (hz : Zr w) :
  Calls Tryz.prog 81 #[.map (some b), wv at', accV amt code sv] w fun e w' => e = .returned (.tuple #[]) ∧ AM w' b (n + 1) (fun m => if m % M = at' % M then some (accV amt code sv) else f m) ∧ Kb [b] w w' := by
 have hB := put_below w at' amt code sv
 have HA : Hid (AM (putW w at' amt code sv) b n f) := h.kb (Kb.of_below (S := []) hB) (by simp)
 obtain ⟨⟨z0, z1, z2, z3⟩, _⟩ := hz.below hB
 have hez := eq_zero amt
 rw [eqz_f hb] at hez
 have HB := hid_of hB
 have HN := hid_of hn
 clear h hb hz hB hn
 go_enter Tryz.func81, Tryz.ntmps81
 go_wp2_with (first | (at_mapUpdate; refine wpList_update_am _ rfl _ _ _ 89 rfl _ ty_acc b n f rfl HA.out HN.out at' (accV amt code sv) rfl rfl ?_; intro w1 hA hT) | go_in)
 go_wp2
 go_end0
 exact ⟨rfl, hA, (Kb.of_below HB.out).trans (turned_Kb hT) (by simp)⟩
theorem put_code {b n : Nat} {f : Nat → Option Value} (at' amt : Nat) (code : ByteArray) (sv : Value) (w : World) (h : AM w b n f) (hn : n < maxLen) (hb : amt % M = 0) (hc : code ≠ ⟨#[]⟩) (hz : Zr w) :
  Calls Tryz.prog 81 #[.map (some b), wv at', accV amt code sv] w fun e w' => e = .returned (.tuple #[]) ∧ AM w' b (n + 1) (fun m => if m % M = at' % M then some (accV amt code sv) else f m) ∧ Kb [b] w w' := by
 have hB := put_below w at' amt code sv
 have HA : Hid (AM (putW w at' amt code sv) b n f) := h.kb (Kb.of_below (S := []) hB) (by simp)
 obtain ⟨⟨z0, z1, z2, z3⟩, _⟩ := hz.below hB
 have hez := eq_zero amt
 rw [eqz_t hb] at hez
 have he := emp_f hc
 have HB := hid_of hB
 have HN := hid_of hn
 clear h hb hz hB hn hc
 go_enter Tryz.func81, Tryz.ntmps81
 go_wp2_with (first | (at_mapUpdate; refine wpList_update_am _ rfl _ _ _ 89 rfl _ ty_acc b n f rfl HA.out HN.out at' (accV amt code sv) rfl rfl ?_; intro w1 hA hT) | go_in)
 go_wp2
 go_end0
 exact ⟨rfl, hA, (Kb.of_below HB.out).trans (turned_Kb hT) (by simp)⟩
theorem put_slots {b n : Nat} {f : Nat → Option Value} (at' amt : Nat) (sv : Value) (w : World) (h : AM w b n f) (hn : n < maxLen) (hb : amt % M = 0) (hs : SomeSlots w sv) (hz : Zr w) :
  Calls Tryz.prog 81 #[.map (some b), wv at', accV amt ⟨#[]⟩ sv] w fun e w' => e = .returned (.tuple #[]) ∧ AM w' b (n + 1) (fun m => if m % M = at' % M then some (accV amt ⟨#[]⟩ sv) else f m) ∧ Kb [b] w w' := by
 have hB := put_below w at' amt ⟨#[]⟩ sv
 have HA : Hid (AM (putW w at' amt ⟨#[]⟩ sv) b n f) := h.kb (Kb.of_below (S := []) hB) (by simp)
 obtain ⟨⟨z0, z1, z2, z3⟩, _⟩ := hz.below hB
 obtain ⟨s, hl, hs0⟩ := len_slots' (hs.kb (Kb.of_below (S := []) hB) (by simp)) 3
 have hez := eq_zero amt
 rw [eqz_t hb] at hez
 have he := emp_t
 have HB := hid_of hB
 have HN := hid_of hn
 clear h hb hz hB hn hs
 go_enter Tryz.func81, Tryz.ntmps81
 go_wp2_with (first | (at_mapUpdate; refine wpList_update_am _ rfl _ _ _ 89 rfl _ ty_acc b n f rfl HA.out HN.out at' (accV amt ⟨#[]⟩ sv) rfl rfl ?_; intro w1 hA hT) | go_in)
 go_wp2
 go_end0
 exact ⟨rfl, hA, (Kb.of_below HB.out).trans (turned_Kb hT) (by simp)⟩
end
section
open Go.RowKit Go.Maps
set_option maxRecDepth 100000
structure Acc where
 bal : Nat
 code : ByteArray
 slots : Nat → Nat
def Acc.no (a : Acc) : Prop := a.bal % M = 0 ∧ a.code = ⟨#[]⟩ ∧ ∀ k, a.slots k % M = 0
def slotF (s : Nat → Nat) (k : Nat) : Option Value := if s k % M = 0 then none else some (wv (s k))
def SlotsOk (w : World) (n ab : Nat) (s : Nat → Nat) (v : Value) : Prop := (v = .map none ∧ ∀ k, s k % M = 0) ∨ ∃ b, v = .map (some b) ∧ b ≠ ab ∧ AM w b n (slotF s)
theorem SlotsOk.kb {S : List Nat} {w w' : World} {n m ab : Nat} {s : Nat → Nat} {v : Value} (h : SlotsOk w n ab s v) (hk : Kb S w w') (hS : ∀ k, v = .map (some k) → k ∉ S) (hm : n ≤ m) : SlotsOk w' m ab s v := by
 rcases h with h | ⟨b, h1, h2, h3⟩
 ·exact Or.inl h
 ·exact Or.inr ⟨b, h1, h2, (h3.kb hk (hS b h1)).mono hm⟩
theorem SlotsOk.is {w : World} {n ab : Nat} {s : Nat → Nat} {v : Value} (h : SlotsOk w n ab s v) : ∃ o, v = .map o := by
 rcases h with ⟨e, _⟩ | ⟨b, e, _⟩
 ·exact ⟨_, e⟩
 ·exact ⟨_, e⟩
structure AccsX (ab n : Nat) (A : Nat → Acc) (sb : Nat → Value) (at' : Nat) (w : World) : Prop where
 map : ∃ f, AM w ab n f ∧ ∀ m, m % M ≠ at' % M → ((A m).no → f m = none) ∧ (¬ (A m).no → f m = some (accV (A m).bal (A m).code (sb m)))
 slot : ∀ m, m % M ≠ at' % M → ¬ (A m).no → SlotsOk w n ab (A m).slots (sb m)
 inj : ∀ m m' b, m % M ≠ at' % M → m' % M ≠ at' % M → ¬ (A m).no → ¬ (A m').no → sb m = .map (some b) → sb m' = .map (some b) → m % M = m' % M
 cong : ∀ m m', m % M = m' % M → A m = A m' ∧ sb m = sb m'
structure Accs (ab n : Nat) (A : Nat → Acc) (sb : Nat → Value) (w : World) : Prop where
 map : ∃ f, AM w ab n f ∧ ∀ m, ((A m).no → f m = none) ∧ (¬ (A m).no → f m = some (accV (A m).bal (A m).code (sb m)))
 slot : ∀ m, ¬ (A m).no → SlotsOk w n ab (A m).slots (sb m)
 inj : ∀ m m' b, ¬ (A m).no → ¬ (A m').no → sb m = .map (some b) → sb m' = .map (some b) → m % M = m' % M
 cong : ∀ m m', m % M = m' % M → A m = A m' ∧ sb m = sb m'
theorem Accs.x {ab n : Nat} {A : Nat → Acc} {sb : Nat → Value} {w : World} (h : Accs ab n A sb w) (at' : Nat) : AccsX ab n A sb at' w :=
 ⟨by obtain ⟨f, h1, h2⟩ := h.map; exact ⟨f, h1, fun m _ => h2 m⟩, fun m _ => h.slot m, fun m m' b _ _ => h.inj m m' b, h.cong⟩
def Afoot (ab : Nat) (A : Nat → Acc) (sb : Nat → Value) (k : Nat) : Prop := k = ab ∨ ∃ m, ¬ (A m).no ∧ sb m = .map (some k)
theorem Accs.kb {S : List Nat} {ab n : Nat} {A : Nat → Acc} {sb : Nat → Value} {w w' : World} (h : Accs ab n A sb w) (hk : Kb S w w') (hS : ∀ k ∈ S, ¬ Afoot ab A sb k) : Accs ab n A sb w' := by
 refine ⟨?_, fun m hm => (h.slot m hm).kb hk (fun k e hk => hS k hk (Or.inr ⟨m, hm, e⟩)) (Nat.le_refl _), h.inj, h.cong⟩
 obtain ⟨f, h1, h2⟩ := h.map
 exact ⟨f, h1.kb hk (fun hk => hS _ hk (Or.inl rfl)), h2⟩
theorem AccsX.kb {S : List Nat} {ab n at' : Nat} {A : Nat → Acc} {sb : Nat → Value} {w w' : World} (h : AccsX ab n A sb at' w) (hk : Kb S w w') (h1 : ab ∉ S) (hS : ∀ m k, m % M ≠ at' % M → ¬ (A m).no → sb m = .map (some k) → k ∉ S) : AccsX ab n A sb at' w' := by
 refine ⟨?_, fun m ha hm => (h.slot m ha hm).kb hk (fun k e => hS m k ha hm e) (Nat.le_refl _), h.inj, h.cong⟩
 obtain ⟨f, h3, h2⟩ := h.map
 exact ⟨f, h3.kb hk h1, h2⟩
theorem Accs.lt {ab n : Nat} {A : Nat → Acc} {sb : Nat → Value} {w : World} (h : Accs ab n A sb w) {k : Nat} (hk : Afoot ab A sb k) : k < w.heap.size := by
 rcases hk with rfl | ⟨m, h1, h2⟩
 ·obtain ⟨f, h1, _⟩ := h.map
  exact h1.lt
 ·rcases h.slot m h1 with ⟨e, _⟩ | ⟨b, e, _, h3⟩
  ·rw [e] at h2; cases h2
  ·rw [e] at h2; injection h2 with h2; injection h2 with h2; subst h2; exact h3.lt
def setA {α : Type} (A : Nat → α) (at' : Nat) (a : α) : Nat → α := fun m => if m % M = at' % M then a else A m
theorem setA_at {α : Type} {A : Nat → α} {at' : Nat} {a : α} {m : Nat} (h : m % M = at' % M) : setA A at' a m = a := if_pos h
theorem setA_ne {α : Type} {A : Nat → α} {at' : Nat} {a : α} {m : Nat} (h : m % M ≠ at' % M) : setA A at' a m = A m := if_neg h
theorem setA_cong {α : Type} {A : Nat → α} (at' : Nat) (a : α) {m m' : Nat} (e : m % M = m' % M) (h : A m = A m') : setA A at' a m = setA A at' a m' := by
 unfold setA
 rw [e, h]
theorem AccsX.put {ab n at' : Nat} {A : Nat → Acc} {sb : Nat → Value} {a : Acc} {sv : Value} {w w' : World} {f' : Nat → Option Value} (h : AccsX ab n A sb at' w) (hs : SlotsOk w n ab a.slots sv)
  (hd : ∀ m b, m % M ≠ at' % M → ¬ (A m).no → sb m = .map (some b) → sv ≠ .map (some b)) (hk : Kb [ab] w w') {f : Nat → Option Value} (hf : AM w ab n f) (hf' : ∀ m, m % M ≠ at' % M → ((A m).no → f m = none) ∧ (¬ (A m).no → f m = some (accV (A m).bal (A m).code (sb m))))
  (hm : AM w' ab (n + 1) f') (hne : ∀ m, m % M ≠ at' % M → f' m = f m) (hat : ∀ m, m % M = at' % M → (a.no → f' m = none) ∧ (¬ a.no → f' m = some (accV a.bal a.code sv))) : Accs ab (n + 1) (setA A at' a) (setA sb at' sv) w' := by
 have nab : ∀ {s v b}, SlotsOk w n ab s v → v = .map (some b) → b ∉ [ab] := fun hs e => by
  rcases hs with ⟨e1, _⟩ | ⟨b, e1, hb, _⟩
  ·rw [e1] at e; cases e
  ·rw [e1] at e; injection e with e; injection e with e; subst e; simpa using hb
 refine ⟨⟨f', hm, fun m => ?_⟩, fun m hno => ?_, fun m m' b h1 h2 e1 e2 => ?_, fun m m' e => ⟨setA_cong _ _ e (h.cong m m' e).1, setA_cong _ _ e (h.cong m m' e).2⟩⟩
 ·by_cases e : m % M = at' % M
  ·rw [setA_at e, setA_at e]; exact hat m e
  ·rw [setA_ne e, setA_ne e, hne m e]; exact hf' m e
 ·by_cases e : m % M = at' % M
  ·rw [setA_at e, setA_at e]; exact hs.kb hk (fun k e2 => nab hs e2) (Nat.le_succ _)
  ·rw [setA_ne e] at hno; rw [setA_ne e, setA_ne e]; exact (h.slot m e hno).kb hk (fun k e2 => nab (h.slot m e hno) e2) (Nat.le_succ _)
 ·by_cases a1 : m % M = at' % M
  ·by_cases a2 : m' % M = at' % M
   ·rw [a1, a2]
   ·rw [setA_at a1] at e1; rw [setA_ne a2] at e2 h2; exact absurd e1 (hd m' b a2 h2 e2)
  ·by_cases a2 : m' % M = at' % M
   ·rw [setA_at a2] at e2; rw [setA_ne a1] at e1 h1; exact absurd e2 (hd m b a1 h1 e1)
   ·rw [setA_ne a1] at e1 h1; rw [setA_ne a2] at e2 h2; exact h.inj m m' b a1 a2 h1 h2 e1 e2
theorem put_any {ab n at' : Nat} {A : Nat → Acc} {sb : Nat → Value} (a : Acc) (sv : Value) (w : World) (h : AccsX ab n A sb at' w) (hs : SlotsOk w n ab a.slots sv)
  (hd : ∀ m b, m % M ≠ at' % M → ¬ (A m).no → sb m = .map (some b) → sv ≠ .map (some b)) (hn : n < 1000000000000) (hz : Zr w) :
  Calls Tryz.prog 81 #[.map (some ab), wv at', accV a.bal a.code sv] w fun e w' => e = .returned (.tuple #[]) ∧ Accs ab (n + 1) (setA A at' a) (setA sb at' sv) w' ∧ Kb [ab] w w' := by
 have hml : n < maxLen := by unfold maxLen; omega
 obtain ⟨f, hf, hf'⟩ := h.map
 have some' : ∀ {e w'}, ¬ a.no → (e = .returned (.tuple #[]) ∧ AM w' ab (n + 1) (fun m => if m % M = at' % M then some (accV a.bal a.code sv) else f m) ∧ Kb [ab] w w') → (e = Ending.returned (.tuple #[]) ∧ Accs ab (n + 1) (setA A at' a) (setA sb at' sv) w' ∧ Kb [ab] w w') := by
  rintro e w' hno ⟨h1, h2, h3⟩
  refine ⟨h1, h.put hs hd h3 hf hf' h2 (fun m hm => if_neg hm) (fun m hm => ⟨fun hc => absurd hc hno, fun _ => if_pos hm⟩), h3⟩
 by_cases hb : a.bal % M = 0
 ·by_cases hc : a.code = ⟨#[]⟩
  ·by_cases hk : ∀ k, a.slots k % M = 0
   ·have hns : NoSlots w sv := by
     rcases hs with ⟨e, _⟩ | ⟨b, e, _, h3⟩
     ·exact Or.inl e
     ·exact Or.inr ⟨b, n, _, e, h3, fun m => if_pos (hk m)⟩
    rw [hc]
    refine (put_none at' a.bal sv w hf hb hns hz).mono ?_
    rintro e w' ⟨h1, h2, h3⟩
    exact ⟨h1, h.put hs hd h3 hf hf' (h2.mono (Nat.le_succ _)) (fun m hm => if_neg hm) (fun m hm => ⟨fun _ => if_pos hm, fun hc' => absurd ⟨hb, hc, hk⟩ hc'⟩), h3⟩
   ·have hss : SomeSlots w sv := by
     rcases hs with ⟨e, h0⟩ | ⟨b, e, _, h3⟩
     ·exact absurd h0 hk
     ·refine ⟨b, n, _, e, by omega, h3, fun h4 => hk fun k => ?_⟩
      have h5 := h4 k
      unfold slotF at h5
      split at h5
      ·assumption
      ·cases h5
    have hno : ¬ a.no := fun h => hk h.2.2
    have some'' := @some'
    rw [hc] at some'' ⊢
    exact (put_slots at' a.bal sv w hf hml hb hss hz).mono fun e w' h => some'' hno h
  ·exact (put_code at' a.bal a.code sv w hf hml hb hc hz).mono fun e w' h => some' (fun h => hc h.2.1) h
 ·exact (put_bal at' a.bal a.code sv w hf hml hb hz).mono fun e w' h => some' (fun h => hb h.1) h
theorem accV_congr {a b : Nat} (h : a % M = b % M) {c : ByteArray} {s : Value} : accV a c s = accV b c s := by
 have e := wv_congr h
 injection e with e
 injection e with e
 injection e with h0 e
 injection e with h1 e
 injection e with h2 e
 injection e with h3 e
 unfold accV accC
 rw [h0, h1, h2, h3]
theorem AccsX.mono {ab n m at' : Nat} {A : Nat → Acc} {sb : Nat → Value} {w : World} (h : AccsX ab n A sb at' w) (hn : n ≤ m) : AccsX ab m A sb at' w :=
 ⟨by obtain ⟨f, h1, h2⟩ := h.map; exact ⟨f, h1.mono hn, h2⟩, fun k h1 h2 => (h.slot k h1 h2).kb (Kb.refl [] w) (by simp) hn, h.inj, h.cong⟩
theorem Accs.read {ab n : Nat} {A : Nat → Acc} {sb : Nat → Value} {w : World} (h : Accs ab n A sb w) (at' : Nat) {f : Nat → Option Value} (hf : ∀ m, ((A m).no → f m = none) ∧ (¬ (A m).no → f m = some (accV (A m).bal (A m).code (sb m)))) :
  ∃ sv, (f at').getD noAcc = accV (A at').bal (A at').code sv ∧ SlotsOk w n ab (A at').slots sv ∧ (∀ m b, m % M ≠ at' % M → ¬ (A m).no → sb m = .map (some b) → sv ≠ .map (some b)) ∧ (∀ b, sv = .map (some b) → Afoot ab A sb b) := by
 by_cases hno : (A at').no
 ·refine ⟨.map none, ?_, Or.inl ⟨rfl, hno.2.2⟩, fun m b _ _ _ e => (by cases e), fun b e => (by cases e)⟩
  rw [(hf at').1 hno, hno.2.1, accV_congr (show (A at').bal % M = 0 % M from hno.1)]
  simp [accV, accC, limb_zero]
 ·refine ⟨sb at', ?_, h.slot at' hno, fun m b hm hm2 e e2 => hm (h.inj m at' b hm2 hno e e2), fun b e => Or.inr ⟨at', hno, e⟩⟩
  rw [(hf at').2 hno]
  rfl
abbrev b2 (w : World) (a c : Nat) : World := (w.alloc (wc a)).alloc (wc c)
set_option maxHeartbeats 4000000 in
theorem setBalance_any {ab n : Nat} {A : Nat → Acc} {sb : Nat → Value} (at' v : Nat) (w : World) (h : Accs ab n A sb w) (hn : n < 1000000000000) (hz : Zr w) :
  Calls Tryz.prog 206 #[.map (some ab), wv at', wv v] w fun e w' => e = .returned (.tuple #[]) ∧ (∃ sv, (∀ b, sv = .map (some b) → Afoot ab A sb b) ∧ Accs ab (n + 1) (setA A at' { A at' with bal := v }) (setA sb at' sv) w') ∧ Kb [ab] w w' := by
 have hB : Below w.heap.size w (b2 w at' v) := bal (bal (Below.refl _ w) _) _
 obtain ⟨f, hf, hf'⟩ := h.map
 obtain ⟨sv, e1, e3, e4, e5⟩ := h.read at' hf'
 have hlk := (hf.kb (Kb.of_below (S := []) hB) (by simp)).look ty_acc zero_acc at'
 rw [e1] at hlk
 have HP : Hid (∀ x, Kb [] w x → Calls Tryz.prog 81 #[.map (some ab), wv at', accV v (A at').code sv] x fun e w' => e = .returned (.tuple #[]) ∧ Accs ab (n + 1) (setA A at' { A at' with bal := v }) (setA sb at' sv) w' ∧ Kb [ab] x w') := fun x hx =>
  put_any { A at' with bal := v } sv x ((h.x at').kb hx (by simp) (by simp)) (e3.kb hx (by simp) (Nat.le_refl _)) e4 hn (hz.kb hx (by simp))
 have HE := hid_of e5
 obtain ⟨o, rfl⟩ := e3.is
 clear h hn hz hB hf hf' e1 e3 e4 e5
 generalize (A at').bal = bl at *
 generalize (A at').code = cd at *
 go_enter Tryz.func206, Tryz.ntmps206
 go_wp2_with fail
 have hk0 : Kb [] w ((b2 w at' v).alloc (Obj.cells #[.int .u64 (limb v 0), .int .u64 (limb v 1), .int .u64 (limb v 2), .int .u64 (limb v 3), .string cd, .map o] 95)) := (((Kb.refl [] w).alloc _).alloc _).alloc _
 refine (HP.out _ hk0).mono ?_
 rintro e w1 ⟨rfl, hA, hK⟩
 have HO : Hid ((∃ sv, (∀ b, sv = .map (some b) → Afoot ab A sb b) ∧ Accs ab (n + 1) (setA A at' { A at' with bal := v }) (setA sb at' sv) w1) ∧ Kb [ab] w w1) := ⟨⟨_, HE.out, hA⟩, (hk0.mono (by simp)).trans hK (by simp)⟩
 clear hA hK hk0 HP HE hlk
 go_wp2
 go_end0
 exact ⟨rfl, HO.out⟩
end
section
open Go.RowKit Go.Maps
set_option maxHeartbeats 8000000
set_option maxRecDepth 100000
def setS (s : Nat → Nat) (k v : Nat) : Nat → Nat := fun m => if m % M = k % M then v else s m
theorem slotF_put (s : Nat → Nat) (k v : Nat) (hv : v % M ≠ 0) (m : Nat) : slotF (setS s k v) m = if m % M = k % M then some (wv v) else slotF s m := by
 unfold slotF setS
 by_cases e : m % M = k % M
 ·rw [if_pos e, if_pos e, if_neg hv]
 ·rw [if_neg e, if_neg e]
theorem slotF_del (s : Nat → Nat) (k v : Nat) (hv : v % M = 0) (m : Nat) : slotF (setS s k v) m = if m % M = k % M then none else slotF s m := by
 unfold slotF setS
 by_cases e : m % M = k % M
 ·rw [if_pos e, if_pos e, if_pos hv]
 ·rw [if_neg e, if_neg e]
abbrev b3 (w : World) (a c d : Nat) : World := ((w.alloc (wc a)).alloc (wc c)).alloc (wc d)
abbrev b4 (w : World) (a c d bl : Nat) (cd : ByteArray) (o : Option Nat) : World := (b3 w a c d).alloc (.cells #[.int .u64 (limb bl 0), .int .u64 (limb bl 1), .int .u64 (limb bl 2), .int .u64 (limb bl 3), .string cd, .map o] 95)
theorem b3_below (w : World) (a c d : Nat) : Below w.heap.size w (b3 w a c d) := bal (bal (bal (Below.refl _ w) _) _) _
theorem setSlot_put {ab n : Nat} {A : Nat → Acc} {sb : Nat → Value} {at' : Nat} {s' : Nat → Nat} {w : World} (h : Accs ab n A sb w) (hn : n < 1000000000) (hz : Zr w) {x : World} {S : List Nat} {b : Nat} (hk : Kb S w x) (ha : AM x b (n + 1) (slotF s')) (hS : ∀ k ∈ S, k = b) (hab : b ≠ ab) (h0 : 0 ≠ b) (hot : ∀ m, m % M ≠ at' % M → ¬ (A m).no → sb m ≠ .map (some b)) :
  Calls Tryz.prog 81 #[.map (some ab), wv at', accV (A at').bal (A at').code (.map (some b))] x fun e w' => e = .returned (.tuple #[]) ∧ Accs ab (n + 2) (setA A at' { A at' with slots := s' }) (setA sb at' (.map (some b))) w' ∧ Kb [ab] x w' := by
 have hx := ((h.x at').kb hk (fun hm => hab (hS _ hm).symm) (fun m k hm hno e hk => hot m hm hno (by rw [e, hS k hk]))).mono (Nat.le_succ n)
 exact put_any { A at' with slots := s' } (.map (some b)) x hx (Or.inr ⟨b, rfl, hab, ha⟩) (fun m k hm hno e e2 => hot m hm hno (e.trans e2.symm)) (by omega) (hz.kb hk (fun hm => h0 (hS _ hm)))
theorem nil_eq_t (w : World) : (binOp .eql 93 (.map none) (.map none)).run Tryz.prog w = .ok (.bool true) w := by kernel_rfl
theorem nil_eq_f (b : Nat) (w : World) : (binOp .eql 93 (.map (some b)) (.map none)).run Tryz.prog w = .ok (.bool false) w := by kernel_rfl
theorem b4_cells {S : List Nat} {w x : World} {a c d bl : Nat} {cd : ByteArray} {o : Option Nat} (hk : Kb S (b4 w a c d bl cd o) x) (h1 : w.heap.size ∉ S) (h2 : w.heap.size + 1 + 1 + 1 ∉ S) :
  (x.cell? ⟨w.heap.size, 0, none⟩ = some (.int .u64 (limb a 0)) ∧ x.cell? ⟨w.heap.size, 1, none⟩ = some (.int .u64 (limb a 1)) ∧ x.cell? ⟨w.heap.size, 2, none⟩ = some (.int .u64 (limb a 2)) ∧ x.cell? ⟨w.heap.size, 3, none⟩ = some (.int .u64 (limb a 3))) ∧
  (x.cell? ⟨w.heap.size + 1 + 1 + 1, 0, none⟩ = some (.int .u64 (limb bl 0)) ∧ x.cell? ⟨w.heap.size + 1 + 1 + 1, 1, none⟩ = some (.int .u64 (limb bl 1)) ∧ x.cell? ⟨w.heap.size + 1 + 1 + 1, 2, none⟩ = some (.int .u64 (limb bl 2)) ∧ x.cell? ⟨w.heap.size + 1 + 1 + 1, 3, none⟩ = some (.int .u64 (limb bl 3)) ∧ x.cell? ⟨w.heap.size + 1 + 1 + 1, 4, none⟩ = some (.string cd) ∧ x.cell? ⟨w.heap.size + 1 + 1 + 1, 5, none⟩ = some (.map o)) := by
 have q1 : ∀ i, x.cell? ⟨w.heap.size, i, none⟩ = (b4 w a c d bl cd o).cell? ⟨w.heap.size, i, none⟩ := fun i => World.cell?_of_block (hk.block _ (by simp; omega) h1)
 have q2 : ∀ i, x.cell? ⟨w.heap.size + 1 + 1 + 1, i, none⟩ = (b4 w a c d bl cd o).cell? ⟨w.heap.size + 1 + 1 + 1, i, none⟩ := fun i => World.cell?_of_block (hk.block _ (by simp) h2)
 simp only [q1, q2]
 simp [go_sem]
abbrev nwb (w : World) : Nat := w.heap.size + 1 + 1 + 1 + 1
abbrev b5 (w : World) (a c d bl : Nat) (cd : ByteArray) : World := (b4 w a c d bl cd (some (nwb w))).alloc (.map #[] 0)
theorem b5_made (w : World) (a c d bl : Nat) (cd : ByteArray) : AM (b5 w a c d bl cd) (nwb w) 0 (fun _ => none) := by
 have h := AM.made (b4 w a c d bl cd (some (nwb w)))
 rw [show (b4 w a c d bl cd (some (nwb w))).heap.size = nwb w by simp [nwb]] at h
 exact h
theorem b5_kb (S : List Nat) (w : World) (a c d bl : Nat) (cd : ByteArray) : Kb S w (b5 w a c d bl cd) := (((((Kb.refl S w).alloc _).alloc _).alloc _).alloc _).alloc _
theorem slotF_no {s : Nat → Nat} (h : ∀ k, s k % M = 0) (m : Nat) : slotF s m = none := if_pos (h m)
theorem Accs.old {ab n : Nat} {A : Nat → Acc} {sb : Nat → Value} {w : World} (h : Accs ab n A sb w) {m b : Nat} (hno : ¬ (A m).no) (e : sb m = .map (some b)) : b < w.heap.size := h.lt (Or.inr ⟨m, hno, e⟩)
theorem setSlot_new {ab n : Nat} {A : Nat → Acc} {sb : Nat → Value} (at' key v : Nat) (w : World) (h : Accs ab n A sb w) (hn : n < 1000000000) (hz : Zr w) {f : Nat → Option Value} (hf : AM w ab n f) (e1 : (f at').getD noAcc = accV (A at').bal (A at').code (.map none)) (h0 : ∀ k, (A at').slots k % M = 0) :
  Calls Tryz.prog 207 #[.map (some ab), wv at', wv key, wv v] w fun e w' => e = .returned (.tuple #[]) ∧ Accs ab (n + 2) (setA A at' { A at' with slots := setS (A at').slots key v }) (setA sb at' (.map (some (nwb w)))) w' ∧ Kb [ab] w w' := by
 have hlk := (hf.kb (Kb.of_below (S := []) (b3_below w at' key v)) (by simp)).look ty_acc zero_acc at'
 rw [e1] at hlk
 have HF : Hid (∀ x, Kb [nwb w] (b5 w at' key v (A at').bal (A at').code) x → AM x (nwb w) (n + 1) (slotF (setS (A at').slots key v)) → Calls Tryz.prog 81 #[.map (some ab), wv at', accV (A at').bal (A at').code (.map (some (nwb w)))] x fun e w' => e = .returned (.tuple #[]) ∧ Accs ab (n + 2) (setA A at' { A at' with slots := setS (A at').slots key v }) (setA sb at' (.map (some (nwb w)))) w' ∧ Kb [ab] x w') := by
  intro x hk ha
  have hab : ab < w.heap.size := h.lt (Or.inl rfl)
  exact setSlot_put h hn hz (S := []) ((b5_kb [] w at' key v _ _).trans hk (fun i hi => Or.inr (by simp at hi; unfold nwb at hi; omega))) ha (by simp) (by unfold nwb; omega) (by unfold nwb; omega) (fun m hm hno e => by have := h.old hno e; unfold nwb at this; omega)
 have HG : Hid (∀ m, slotF (A at').slots m = none) := fun m => slotF_no h0 m
 generalize hU : setA A at' { A at' with slots := setS (A at').slots key v } = U at *
 clear hU h0 e1
 generalize (A at').bal = bl at *
 generalize (A at').code = cd at *
 generalize (A at').slots = sl at *
 obtain ⟨⟨z0, z1, z2, z3⟩, _⟩ := hz.below (bal (Below.refl _ w) (wc at'))
 have hmm := @run_makeMap Tryz.prog
 have hne := nil_eq_t
 have hez := eq_zero v
 have HA := hid_of (b5_made w at' key v bl cd)
 have HKB := hid_of (b5_kb [ab] w at' key v bl cd)
 have HL : Hid (0 < maxLen) := by unfold maxLen; show 0 < _; omega
 have HNB : Hid (nwb w ∈ [ab] ∨ w.heap.size ≤ nwb w) := Or.inr (by unfold nwb; omega)
 clear h hn hz hf
 by_cases hv : v % M = 0
 ·rw [eqz_t hv] at hez
  have HV := hid_of hv
  clear hv
  go_enter Tryz.func207, Tryz.ntmps207
  go_wp2_with (first | (at_delete; refine wpList_delete_am _ rfl _ _ 93 rfl _ ty_slt (nwb w) 0 (fun _ => none) rfl HA.out key rfl ?_; intro w1 hA hT; have HA1 : Hid (AM w1 (nwb w) (n + 1) (slotF (setS sl key v)) ∧ Kb [nwb w] (b5 w at' key v bl cd) w1) := ⟨(hA.mono (by omega)).congr (fun m => (slotF_del sl key v HV.out m).trans (by rw [HG.out m])), turned_Kb hT⟩; obtain ⟨⟨c0, c1, c2, c3⟩, d0, d1, d2, d3, d4, d5⟩ := b4_cells (((Kb.refl [] (b4 w at' key v bl cd (some (nwb w)))).alloc (.map #[] 0)).mono (T := [nwb w]) (by simp) |>.trans HA1.out.2 (fun i hi => Or.inl hi)) (by simp [nwb]; omega) (by simp [nwb]); clear hA hT) | fail)
  refine (HF.out _ HA1.out.2 HA1.out.1).mono ?_
  rintro e w2 ⟨rfl, hR, hK⟩
  have HO : Hid (Accs ab (n + 2) U (setA sb at' (.map (some (nwb w)))) w2 ∧ Kb [ab] w w2) := ⟨hR, (HKB.out.trans HA1.out.2 (fun i hi => by simp at hi; subst hi; exact HNB.out)).trans hK (by simp)⟩
  clear hR hK HF HA1
  go_wp2
  go_end0
  exact ⟨rfl, HO.out⟩
 ·rw [eqz_f hv] at hez
  have HV := hid_of hv
  clear hv
  go_enter Tryz.func207, Tryz.ntmps207
  go_wp2_with (first | (at_mapUpdate; refine wpList_update_am _ rfl _ _ _ 93 rfl _ ty_slt (nwb w) 0 (fun _ => none) rfl HA.out HL.out key (wv v) rfl rfl ?_; intro w1 hA hT; have HA1 : Hid (AM w1 (nwb w) (n + 1) (slotF (setS sl key v)) ∧ Kb [nwb w] (b5 w at' key v bl cd) w1) := ⟨(hA.mono (by omega)).congr (fun m => (slotF_put sl key v HV.out m).trans (by rw [HG.out m])), turned_Kb hT⟩; obtain ⟨⟨c0, c1, c2, c3⟩, d0, d1, d2, d3, d4, d5⟩ := b4_cells (((Kb.refl [] (b4 w at' key v bl cd (some (nwb w)))).alloc (.map #[] 0)).mono (T := [nwb w]) (by simp) |>.trans HA1.out.2 (fun i hi => Or.inl hi)) (by simp [nwb]; omega) (by simp [nwb]); clear hA hT) | fail)
  refine (HF.out _ HA1.out.2 HA1.out.1).mono ?_
  rintro e w2 ⟨rfl, hR, hK⟩
  have HO : Hid (Accs ab (n + 2) U (setA sb at' (.map (some (nwb w)))) w2 ∧ Kb [ab] w w2) := ⟨hR, (HKB.out.trans HA1.out.2 (fun i hi => by simp at hi; subst hi; exact HNB.out)).trans hK (by simp)⟩
  clear hR hK HF HA1
  go_wp2
  go_end0
  exact ⟨rfl, HO.out⟩
theorem b4_kb (S : List Nat) (w : World) (a c d bl : Nat) (cd : ByteArray) (o : Option Nat) : Kb S w (b4 w a c d bl cd o) := ((((Kb.refl S w).alloc _).alloc _).alloc _).alloc _
theorem setSlot_old {ab n : Nat} {A : Nat → Acc} {sb : Nat → Value} (at' key v : Nat) (w : World) (h : Accs ab n A sb w) (hn : n < 1000000000) (hz : Zr w) {f : Nat → Option Value} (hf : AM w ab n f) {b : Nat} (e1 : (f at').getD noAcc = accV (A at').bal (A at').code (.map (some b))) (hb : AM w b n (slotF (A at').slots)) (hab : b ≠ ab) (hot : ∀ m, m % M ≠ at' % M → ¬ (A m).no → sb m ≠ .map (some b)) (hb0 : 0 ≠ b) :
  Calls Tryz.prog 207 #[.map (some ab), wv at', wv key, wv v] w fun e w' => e = .returned (.tuple #[]) ∧ Accs ab (n + 2) (setA A at' { A at' with slots := setS (A at').slots key v }) (setA sb at' (.map (some b))) w' ∧ Kb [ab, b] w w' := by
 have hlk := (hf.kb (Kb.of_below (S := []) (b3_below w at' key v)) (by simp)).look ty_acc zero_acc at'
 rw [e1] at hlk
 have HF : Hid (∀ x, Kb [b] (b4 w at' key v (A at').bal (A at').code (some b)) x → AM x b (n + 1) (slotF (setS (A at').slots key v)) → Calls Tryz.prog 81 #[.map (some ab), wv at', accV (A at').bal (A at').code (.map (some b))] x fun e w' => e = .returned (.tuple #[]) ∧ Accs ab (n + 2) (setA A at' { A at' with slots := setS (A at').slots key v }) (setA sb at' (.map (some b))) w' ∧ Kb [ab] x w') := by
  intro x hk ha
  exact setSlot_put h hn hz (S := [b]) ((b4_kb [b] w at' key v _ _ _).trans hk (fun i hi => Or.inl hi)) ha (by simp) hab hb0 hot
 have HA := hid_of (hb.kb (b4_kb [] w at' key v (A at').bal (A at').code (some b)) (by simp))
 generalize hU : setA A at' { A at' with slots := setS (A at').slots key v } = U at *
 have hlt := hb.lt
 clear hU e1 hb hot
 generalize (A at').bal = bl at *
 generalize (A at').code = cd at *
 generalize (A at').slots = sl at *
 obtain ⟨⟨z0, z1, z2, z3⟩, _⟩ := hz.below (bal (Below.refl _ w) (wc at'))
 have hne := nil_eq_f b
 have hez := eq_zero v
 have HKB := hid_of (b4_kb [ab, b] w at' key v bl cd (some b))
 have HL : Hid (n < maxLen) := by unfold maxLen; show n < _; omega
 have HLT : Hid (w.heap.size ∉ [b] ∧ w.heap.size + 1 + 1 + 1 ∉ [b]) := ⟨by simp; omega, by simp; omega⟩
 clear h hn hz hf hlt hab hb0
 by_cases hv : v % M = 0
 ·rw [eqz_t hv] at hez
  have HV := hid_of hv
  clear hv
  go_enter Tryz.func207, Tryz.ntmps207
  go_wp2_with (first | (at_delete; refine wpList_delete_am _ rfl _ _ 93 rfl _ ty_slt b n (slotF sl) rfl HA.out key rfl ?_; intro w1 hA hT; have HA1 : Hid (AM w1 b (n + 1) (slotF (setS sl key v)) ∧ Kb [b] (b4 w at' key v bl cd (some b)) w1) := ⟨(hA.mono (by omega)).congr (fun m => slotF_del sl key v HV.out m), turned_Kb hT⟩; obtain ⟨⟨c0, c1, c2, c3⟩, d0, d1, d2, d3, d4, d5⟩ := b4_cells HA1.out.2 HLT.out.1 HLT.out.2; clear hA hT) | fail)
  refine (HF.out _ HA1.out.2 HA1.out.1).mono ?_
  rintro e w2 ⟨rfl, hR, hK⟩
  have HO : Hid (Accs ab (n + 2) U (setA sb at' (.map (some b))) w2 ∧ Kb [ab, b] w w2) := ⟨hR, (HKB.out.trans HA1.out.2 (fun i hi => Or.inl (by simp at hi; simp [hi]))).trans hK (fun i hi => Or.inl (by simp at hi; simp [hi]))⟩
  clear hR hK HF HA1
  go_wp2
  go_end0
  exact ⟨rfl, HO.out⟩
 ·rw [eqz_f hv] at hez
  have HV := hid_of hv
  clear hv
  go_enter Tryz.func207, Tryz.ntmps207
  go_wp2_with (first | (at_mapUpdate; refine wpList_update_am _ rfl _ _ _ 93 rfl _ ty_slt b n (slotF sl) rfl HA.out HL.out key (wv v) rfl rfl ?_; intro w1 hA hT; have HA1 : Hid (AM w1 b (n + 1) (slotF (setS sl key v)) ∧ Kb [b] (b4 w at' key v bl cd (some b)) w1) := ⟨hA.congr (fun m => slotF_put sl key v HV.out m), turned_Kb hT⟩; obtain ⟨⟨c0, c1, c2, c3⟩, d0, d1, d2, d3, d4, d5⟩ := b4_cells HA1.out.2 HLT.out.1 HLT.out.2; clear hA hT) | fail)
  refine (HF.out _ HA1.out.2 HA1.out.1).mono ?_
  rintro e w2 ⟨rfl, hR, hK⟩
  have HO : Hid (Accs ab (n + 2) U (setA sb at' (.map (some b))) w2 ∧ Kb [ab, b] w w2) := ⟨hR, (HKB.out.trans HA1.out.2 (fun i hi => Or.inl (by simp at hi; simp [hi]))).trans hK (fun i hi => Or.inl (by simp at hi; simp [hi]))⟩
  clear hR hK HF HA1
  go_wp2
  go_end0
  exact ⟨rfl, HO.out⟩
theorem zr_no {w : World} (hz : Zr w) {b n : Nat} {f : Nat → Option Value} (h : AM w b n f) : 0 ≠ b := fun e => by
 subst e
 obtain ⟨es, cl, h1⟩ := h.is
 obtain ⟨⟨z0, _⟩, _⟩ := hz
 simp [World.cell?, h1] at z0
theorem setSlot_any {ab n : Nat} {A : Nat → Acc} {sb : Nat → Value} (at' key v : Nat) (w : World) (h : Accs ab n A sb w) (hn : n < 1000000000) (hz : Zr w) :
  Calls Tryz.prog 207 #[.map (some ab), wv at', wv key, wv v] w fun e w' => e = .returned (.tuple #[]) ∧ (∃ sv, (∀ b, sv = .map (some b) → Afoot ab A sb b ∨ w.heap.size ≤ b) ∧ Accs ab (n + 2) (setA A at' { A at' with slots := setS (A at').slots key v }) (setA sb at' sv) w') ∧ ∃ S, Kb S w w' ∧ ∀ k ∈ S, Afoot ab A sb k := by
 obtain ⟨f, hf, hf'⟩ := h.map
 obtain ⟨sv, e1, e3, e4, e5⟩ := h.read at' hf'
 rcases e3 with ⟨rfl, h0⟩ | ⟨b, rfl, hab, hb⟩
 ·refine (setSlot_new at' key v w h hn hz hf e1 h0).mono ?_
  rintro e w' ⟨h1, h2, h3⟩
  exact ⟨h1, ⟨_, fun b e => Or.inr (by injection e with e; injection e with e; unfold nwb at e; omega), h2⟩, [ab], h3, fun k hk => Or.inl (by simpa using hk)⟩
 ·refine (setSlot_old at' key v w h hn hz hf e1 hb hab (fun m hm hno e => e4 m b hm hno e rfl) (zr_no hz hb)).mono ?_
  rintro e w' ⟨h1, h2, h3⟩
  refine ⟨h1, ⟨_, fun b' e => Or.inl (e5 b' e), h2⟩, [ab, b], h3, fun k hk => ?_⟩
  simp at hk
  rcases hk with rfl | rfl
  ·exact Or.inl rfl
  ·exact e5 k rfl
end
section
open Go.RowKit Go.Maps
set_option maxHeartbeats 8000000
set_option maxRecDepth 100000
structure Chg where
 kind : Nat
 at' : Nat
 key : Nat
 old : Nat
structure LogE where
 at' : Nat
 topics : List Nat
 data : ByteArray
structure TS where
 acc : Nat → Acc
 pas : Nat → Nat → Nat
 ch : List Chg
 logs : List LogE
structure TV where
 ab : Nat
 pb : Nat
 n : Nat
 sb : Nat → Value
 cv : Value
 lv : Value
 tv : List Value
abbrev cellC (kind a key : Nat) : Array Value := #[.int .i64 (kind : Int), .int .u64 (limb a 0), .int .u64 (limb a 1), .int .u64 (limb a 2), .int .u64 (limb a 3), .int .u64 (limb key 0), .int .u64 (limb key 1), .int .u64 (limb key 2), .int .u64 (limb key 3)]
abbrev cellV (kind a key : Nat) : Value := .agg (cellC kind a key)
def chC (c : Chg) : List Value := [.int .i64 (c.kind : Int), .int .u64 (limb c.at' 0), .int .u64 (limb c.at' 1), .int .u64 (limb c.at' 2), .int .u64 (limb c.at' 3), .int .u64 (limb c.key 0), .int .u64 (limb c.key 1), .int .u64 (limb c.key 2), .int .u64 (limb c.key 3), .int .u64 (limb c.old 0), .int .u64 (limb c.old 1), .int .u64 (limb c.old 2), .int .u64 (limb c.old 3)]
def chL (l : List Chg) : List Value := l.flatMap chC
def loC (l : LogE) (t : Value) : List Value := [.int .u64 (limb l.at' 0), .int .u64 (limb l.at' 1), .int .u64 (limb l.at' 2), .int .u64 (limb l.at' 3), t, .string l.data]
def loL : List LogE → List Value → List Value
 | l :: r, t :: s => loC l t ++ loL r s
 | _, _ => []
def Lo (w : World) (base : Nat) (lv : Value) (tv : List Value) (L : List LogE) : Prop :=
 tv.length = L.length ∧ w.ownsRow base 112 6 lv L.length (loL L tv) ∧ ∀ (i : Nat) l t, L[i]? = some l → tv[i]? = some t → Wds w base t l.topics
theorem Lo.kb {S : List Nat} {w w' : World} {base : Nat} {lv : Value} {tv : List Value} {L : List LogE} (h : Lo w base lv tv L) (hk : Kb S w w') (h1 : ∀ k, lv.ownBlock = some k → k ∉ S) (h2 : ∀ t ∈ tv, ∀ k, t.ownBlock = some k → k ∉ S) : Lo w' base lv tv L :=
 ⟨h.1, hk.own h.2.1 h1, fun i l t hl ht => hk.own (h.2.2 i l t hl ht) (h2 t (List.mem_of_getElem? ht))⟩
def trC (V : TV) (i : Nat) : Value := if i = 0 then .map (some V.ab) else if i = 1 then .map (some V.pb) else if i = 2 then V.cv else V.lv
def PM (w : World) (pb n : Nat) (p : Nat → Nat → Nat) : Prop := ∃ g, MapV Tryz.prog 217 w pb n g ∧ ∀ a k, (g (cellV 2 a k)).getD (wv 0) = wv (p a k)
theorem PM.kb {S : List Nat} {w w' : World} {pb n : Nat} {p : Nat → Nat → Nat} (h : PM w pb n p) (hk : Kb S w w') (hS : pb ∉ S) : PM w' pb n p := by
 obtain ⟨g, h1, h2⟩ := h
 exact ⟨g, h1.block (hk.block pb h1.lt hS), h2⟩
theorem PM.lt {w : World} {pb n : Nat} {p : Nat → Nat → Nat} (h : PM w pb n p) : pb < w.heap.size := by
 obtain ⟨g, h1, h2⟩ := h
 exact h1.lt
theorem PM.is {w : World} {pb n : Nat} {p : Nat → Nat → Nat} (h : PM w pb n p) : ∃ es cl, w.heap[pb]? = some (.map es cl) := by
 obtain ⟨g, h1, h2⟩ := h
 exact h1.is
theorem PM.mono {w : World} {pb n m : Nat} {p : Nat → Nat → Nat} (h : PM w pb n p) (hn : n ≤ m) : PM w pb m p := by
 obtain ⟨g, h1, h2⟩ := h
 exact ⟨g, h1.mono hn, h2⟩
structure Tr (base tb : Nat) (T : TS) (V : TV) (w : World) : Prop where
 row : w.rowIs tb 131 4 (trC V)
 acc : Accs V.ab V.n T.acc V.sb w
 pas : PM w V.pb V.n T.pas
 ch : w.ownsRow base 220 13 V.cv T.ch.length (chL T.ch)
 lo : Lo w base V.lv V.tv T.logs
 zr : Zr w
 hb : base ≤ w.heap.size
 hb1 : 0 < base
 pn : ¬ Afoot V.ab T.acc V.sb V.pb
def Tfoot (tb : Nat) (T : TS) (V : TV) (k : Nat) : Prop := k = tb ∨ Afoot V.ab T.acc V.sb k ∨ k = V.pb ∨ V.cv.ownBlock = some k ∨ V.lv.ownBlock = some k ∨ ∃ t ∈ V.tv, t.ownBlock = some k
theorem Tr.kb {S : List Nat} {base tb : Nat} {T : TS} {V : TV} {w w' : World} (h : Tr base tb T V w) (hk : Kb S w w') (hS : ∀ k ∈ S, ¬ Tfoot tb T V k) (h0 : 0 ∉ S) : Tr base tb T V w' :=
 ⟨hk.row h.row (fun hm => hS _ hm (Or.inl rfl)), h.acc.kb hk (fun k hm hf => hS k hm (Or.inr (Or.inl hf))), h.pas.kb hk (fun hm => hS _ hm (Or.inr (Or.inr (Or.inl rfl)))),
  hk.own h.ch (fun k e hm => hS k hm (Or.inr (Or.inr (Or.inr (Or.inl e))))), h.lo.kb hk (fun k e hm => hS k hm (Or.inr (Or.inr (Or.inr (Or.inr (Or.inl e)))))) (fun t ht k e hm => hS k hm (Or.inr (Or.inr (Or.inr (Or.inr (Or.inr ⟨t, ht, e⟩)))))),
  h.zr.kb hk h0, Nat.le_trans h.hb hk.size, h.hb1, h.pn⟩
theorem Tr.below {base tb : Nat} {T : TS} {V : TV} {w w' : World} (h : Tr base tb T V w) (hk : Below w.heap.size w w') : Tr base tb T V w' := h.kb (Kb.of_below (S := []) hk) (by simp) (by simp)
def getT (T : TS) (kind a key : Nat) : Nat := if kind = 0 then (T.acc a).bal else if kind = 1 then (T.acc a).slots key else T.pas a key
theorem slotF_get (s : Nat → Nat) (k : Nat) : (slotF s k).getD (.agg #[.int .u64 0, .int .u64 0, .int .u64 0, .int .u64 0]) = wv (s k) := by
 unfold slotF
 by_cases h : s k % M = 0
 ·rw [if_pos h, wv_congr (show s k % M = 0 % M from h)]
  unfold wv
  rw [limb_zero, limb_zero, limb_zero, limb_zero]
  rfl
 ·rw [if_neg h]; rfl
theorem slot_look {w : World} {n ab : Nat} {s : Nat → Nat} {v : Value} (h : SlotsOk w n ab s v) (k : Nat) : (Instr.lookup 93 v (wv k) false).run Tryz.prog w = .ok (wv (s k)) w := by
 rcases h with ⟨rfl, h0⟩ | ⟨b, rfl, _, hb⟩
 ·obtain ⟨l, hl⟩ := wd_key k
  have := Maps.look_nil (w := w) false wd_keyed ty_slt (zero_wdv w) hl
  rw [wv_congr (show s k % M = 0 % M from h0 k)]
  unfold wv
  rw [limb_zero, limb_zero, limb_zero, limb_zero]
  simpa using this
 ·rw [hb.look ty_slt zero_wdv k, slotF_get]
theorem acc_f0 (b : Nat) (c : ByteArray) (o : Option Nat) (w : World) : (Instr.field 95 (accV b c (.map o)) 0).run Tryz.prog w = .ok (wv b) w := by kernel_rfl
theorem acc_f1 (b : Nat) (c : ByteArray) (o : Option Nat) (w : World) : (Instr.field 95 (accV b c (.map o)) 1).run Tryz.prog w = .ok (.string c) w := by kernel_rfl
theorem acc_f2 (b : Nat) (c : ByteArray) (o : Option Nat) (w : World) : (Instr.field 95 (accV b c (.map o)) 2).run Tryz.prog w = .ok (.map o) w := by kernel_rfl
abbrev g2 (w : World) (kind a key : Nat) : World := ((w.alloc (.cells (cellC kind a key) 217)).alloc (.cells #[.int .u64 0, .int .u64 0, .int .u64 0, .int .u64 0] 24)).drew
theorem g2_below (w : World) (kind a key : Nat) : Below w.heap.size w (g2 w kind a key) := (bal (bal (Below.refl _ w) _) _).drew
theorem get_money {base tb : Nat} {T : TS} {V : TV} (a key : Nat) (w : World) (h : Tr base tb T V w) :
  Calls Tryz.prog 202 #[.pointer (some ⟨tb, 0, none⟩), cellV 0 a key] w fun e w' => e = .returned (wv (T.acc a).bal) ∧ Below w.heap.size w w' := by
 have h2 := h.below (g2_below w 0 a key)
 obtain ⟨f, hf, hf'⟩ := h2.acc.map
 obtain ⟨sv, e1, e3, e4, e5⟩ := h2.acc.read a hf'
 have hlk := hf.look ty_acc zero_acc a
 rw [e1] at hlk
 have c0 := h2.row.cell (i := 0) (by decide)
 rw [show trC V 0 = .map (some V.ab) from rfl] at c0
 obtain ⟨o, rfl⟩ := e3.is
 generalize (T.acc a).bal = bl at *
 generalize (T.acc a).code = cd at *
 clear h h2 hf hf' e1 e3 e4 e5
 have hfd := acc_f0 bl cd o
 go_enter Tryz.func202, Tryz.ntmps202
 go_wp2
 go_region
 go_wp2
 refine bodyPost_ret (v := wv bl) (by simp [results, Tryz.results202, go_sem]) rfl ⟨rfl, (bal (bal (Below.refl _ w) _) _).drew⟩
theorem get_lasting {base tb : Nat} {T : TS} {V : TV} (a key : Nat) (w : World) (h : Tr base tb T V w) :
  Calls Tryz.prog 202 #[.pointer (some ⟨tb, 0, none⟩), cellV 1 a key] w fun e w' => e = .returned (wv ((T.acc a).slots key)) ∧ Below w.heap.size w w' := by
 have h2 := h.below (g2_below w 1 a key)
 obtain ⟨f, hf, hf'⟩ := h2.acc.map
 obtain ⟨sv, e1, e3, e4, e5⟩ := h2.acc.read a hf'
 have hlk := hf.look ty_acc zero_acc a
 rw [e1] at hlk
 have c0 := h2.row.cell (i := 0) (by decide)
 rw [show trC V 0 = .map (some V.ab) from rfl] at c0
 obtain ⟨o, rfl⟩ := e3.is
 have hsl := slot_look e3 key
 generalize (T.acc a).slots key = r at *
 generalize (T.acc a).bal = bl at *
 generalize (T.acc a).code = cd at *
 clear h h2 hf hf' e1 e3 e4 e5
 have hfd := acc_f2 bl cd o
 go_enter Tryz.func202, Tryz.ntmps202
 go_wp2
 go_region
 go_wp2
 refine bodyPost_ret (v := wv r) (by simp [results, Tryz.results202, go_sem]) rfl ⟨rfl, (bal (bal (Below.refl _ w) _) _).drew⟩
end
section
open Go.RowKit Go.Maps
set_option maxHeartbeats 8000000
set_option maxRecDepth 100000
def putT (T : TS) (kind a key v : Nat) : TS :=
 if kind = 0 then { T with acc := setA T.acc a { T.acc a with bal := v } } else if kind = 1 then { T with acc := setA T.acc a { T.acc a with slots := setS (T.acc a).slots key v } } else { T with pas := fun b k => if b % M = a % M ∧ k % M = key % M then v else T.pas b k }
theorem Accs.isMap {ab n k : Nat} {A : Nat → Acc} {sb : Nat → Value} {w : World} (h : Accs ab n A sb w) (hk : Afoot ab A sb k) : ∃ es cl, w.heap[k]? = some (.map es cl) := by
 rcases hk with rfl | ⟨m, h1, h2⟩
 ·obtain ⟨f, h1, _⟩ := h.map
  exact h1.is
 ·rcases h.slot m h1 with ⟨e, _⟩ | ⟨b, e, _, h3⟩
  ·rw [e] at h2; cases h2
  ·rw [e] at h2; injection h2 with h2; injection h2 with h2; subst h2; exact h3.is
theorem own_map_ne {w : World} {base e size n k : Nat} {v : Value} {xs : List Value} (ho : w.ownsRow base e size v n xs) (hk : ∃ es cl, w.heap[k]? = some (.map es cl)) : v.ownBlock ≠ some k := fun h => by
 obtain ⟨es, cl, h1⟩ := hk
 rcases ho.2 with ⟨h2, _⟩ | ⟨g, cap, cur, h2, _, h3, _⟩
 ·rw [h2] at h; cases h
 ·rw [h2] at h
  obtain rfl : g = k := by simpa [Value.ownBlock] using h
  rw [h1] at h3
  cases h3
theorem row_map_ne {w : World} {b T N k : Nat} {f : Nat → Value} (hr : w.rowIs b T N f) (hk : ∃ es cl, w.heap[k]? = some (.map es cl)) : b ≠ k := fun e => by
 subst e
 obtain ⟨es, cl, h1⟩ := hk
 obtain ⟨c, h2, _⟩ := hr
 rw [h1] at h2
 cases h2
theorem zr_map_ne {w : World} {k : Nat} (hz : Zr w) (hk : ∃ es cl, w.heap[k]? = some (.map es cl)) : 0 ≠ k := fun e => by
 subst e
 obtain ⟨es, cl, h1⟩ := hk
 obtain ⟨⟨z0, _⟩, _⟩ := hz
 simp [World.cell?, h1] at z0
theorem Lo.tv {w : World} {base : Nat} {lv : Value} {tv : List Value} {L : List LogE} (h : Lo w base lv tv L) {t : Value} (ht : t ∈ tv) : ∃ l, Wds w base t l := by
 obtain ⟨i, hi, e⟩ := List.getElem_of_mem ht
 have h1 : i < L.length := by rw [← h.1]; exact hi
 exact ⟨_, h.2.2 i L[i] t (List.getElem?_eq_getElem h1) (by rw [List.getElem?_eq_getElem hi, e])⟩
def TTo (base tb : Nat) (T : TS) (V : TV) (T' : TS) (m : Nat) (w w' : World) : Prop := ∃ V' S, Tr base tb T' V' w' ∧ V'.n ≤ V.n + m ∧ Kb S w w' ∧ (∀ k ∈ S, Tfoot tb T V k) ∧ (∀ k, Tfoot tb T' V' k → Tfoot tb T V k ∨ w.heap.size ≤ k) ∧ V'.ab = V.ab
theorem TTo.pre {base tb m : Nat} {T T1 : TS} {V : TV} {w x w1 : World} (hb : Below w.heap.size w x) (h : TTo base tb T V T1 m x w1) : TTo base tb T V T1 m w w1 := by
 obtain ⟨V1, S, h1, h2, h3, h4, h5, h6⟩ := h
 refine ⟨V1, S, h1, h2, (Kb.of_below hb).trans h3 (fun i hi => Or.inl hi), h4, fun k hk => (h5 k hk).imp id (fun h => Nat.le_trans hb.size h), h6⟩
theorem Tr.acc_to {base tb n' a : Nat} {T : TS} {V : TV} {w w' : World} {A' : Acc} {sv : Value} {S : List Nat} (h : Tr base tb T V w) (hk : Kb S w w') (hS : ∀ k ∈ S, Afoot V.ab T.acc V.sb k) (hn : V.n ≤ n') (hsv : ∀ b, sv = .map (some b) → Afoot V.ab T.acc V.sb b ∨ w.heap.size ≤ b) (hA : Accs V.ab n' (setA T.acc a A') (setA V.sb a sv) w') :
  Tr base tb { T with acc := setA T.acc a A' } { V with n := n', sb := setA V.sb a sv } w' ∧ ∀ k, Tfoot tb { T with acc := setA T.acc a A' } { V with n := n', sb := setA V.sb a sv } k → Tfoot tb T V k ∨ w.heap.size ≤ k := by
 have ha : ∀ k, Afoot V.ab (setA T.acc a A') (setA V.sb a sv) k → Afoot V.ab T.acc V.sb k ∨ w.heap.size ≤ k := by
  intro k hk
  rcases hk with rfl | ⟨m, h1, h2⟩
  ·exact Or.inl (Or.inl rfl)
  ·by_cases e : m % M = a % M
   ·rw [setA_at e] at h2
    exact hsv k h2
   ·rw [setA_ne e] at h1 h2
    exact Or.inl (Or.inr ⟨m, h1, h2⟩)
 have hm : ∀ k ∈ S, ∃ es cl, w.heap[k]? = some (.map es cl) := fun k hk => h.acc.isMap (hS k hk)
 refine ⟨⟨hk.row h.row (fun e => row_map_ne h.row (hm _ e) rfl), hA, (h.pas.kb hk (fun e => h.pn (hS _ e))).mono hn, hk.own h.ch (fun k e hS => own_map_ne h.ch (hm k hS) e), h.lo.kb hk (fun k e hS => own_map_ne h.lo.2.1 (hm k hS) e) (fun t ht k e hS => by obtain ⟨l, hl⟩ := h.lo.tv ht; exact own_map_ne hl (hm k hS) e), h.zr.kb hk (fun e => zr_map_ne h.zr (hm _ e) rfl), Nat.le_trans h.hb hk.size, h.hb1, fun e => ?_⟩, fun k hk => ?_⟩
 ·rcases ha _ e with e | e
  ·exact h.pn e
  ·have := h.pas.lt
   exact absurd e (by show ¬ w.heap.size ≤ V.pb; omega)
 ·rcases hk with e | e | e
  ·exact Or.inl (Or.inl e)
  ·rcases ha _ e with e | e
   ·exact Or.inl (Or.inr (Or.inl e))
   ·exact Or.inr e
  ·exact Or.inl (Or.inr (Or.inr e))
theorem setBalance_T {base tb : Nat} {T : TS} {V : TV} (a v : Nat) (w : World) (h : Tr base tb T V w) (hn : V.n < 1000000000) :
  Calls Tryz.prog 206 #[.map (some V.ab), wv a, wv v] w fun e w' => e = .returned (.tuple #[]) ∧ TTo base tb T V (putT T 0 a 0 v) 2 w w' := by
 refine (setBalance_any a v w h.acc (by omega) h.zr).mono ?_
 rintro e w' ⟨h1, ⟨sv, h2, h3⟩, h4⟩
 obtain ⟨h5, h6⟩ := h.acc_to h4 (fun k hk => Or.inl (by simpa using hk)) (Nat.le_succ _) (fun b e => Or.inl (h2 b e)) h3
 exact ⟨h1, _, [V.ab], h5, by show V.n + 1 ≤ _; omega, h4, fun k hk => Or.inr (Or.inl (Or.inl (by simpa using hk))), h6, rfl⟩
theorem setSlot_T {base tb : Nat} {T : TS} {V : TV} (a key v : Nat) (w : World) (h : Tr base tb T V w) (hn : V.n < 1000000000) :
  Calls Tryz.prog 207 #[.map (some V.ab), wv a, wv key, wv v] w fun e w' => e = .returned (.tuple #[]) ∧ TTo base tb T V (putT T 1 a key v) 2 w w' := by
 refine (setSlot_any a key v w h.acc hn h.zr).mono ?_
 rintro e w' ⟨h1, ⟨sv, h2, h3⟩, S, h4, h7⟩
 obtain ⟨h5, h6⟩ := h.acc_to h4 h7 (Nat.le_add_right _ 2) h2 h3
 exact ⟨h1, _, S, h5, by show V.n + 2 ≤ _; omega, h4, fun k hk => Or.inr (Or.inl (h7 k hk)), h6, rfl⟩
abbrev p2 (w : World) (kind a key v : Nat) : World := ((w.alloc (.cells (cellC kind a key) 217)).alloc (wc v)).drew
theorem p2_below (w : World) (kind a key v : Nat) : Below w.heap.size w (p2 w kind a key v) := (bal (bal (Below.refl _ w) _) _).drew
theorem tput_money {base tb : Nat} {T : TS} {V : TV} (a key v : Nat) (w : World) (h : Tr base tb T V w) (hn : V.n < 1000000000) :
  Calls Tryz.prog 159 #[.pointer (some ⟨tb, 0, none⟩), cellV 0 a key, wv v] w fun e w' => e = .returned (.tuple #[]) ∧ TTo base tb T V (putT T 0 a key v) 2 w w' := by
 have h2 := h.below (p2_below w 0 a key v)
 have HS := hid_of (setBalance_T a v _ h2 hn)
 have HB := hid_of (p2_below w 0 a key v)
 have c0 := h2.row.cell (i := 0) (by decide)
 rw [show trC V 0 = .map (some V.ab) from rfl] at c0
 have HT : Hid (putT T 0 a key v = putT T 0 a 0 v) := rfl
 clear h h2
 go_enter Tryz.func159, Tryz.ntmps159
 go_wp2
 go_region_with (refine HS.out.mono ?_; rintro e w1 ⟨rfl, hto⟩)
 all_goals (
  have HO : Hid (TTo base tb T V (putT T 0 a key v) 2 w w1) := by rw [HT.out]; exact hto.pre HB.out
  clear hto
  go_wp2
  go_end0
  exact ⟨rfl, HO.out⟩)
theorem tput_lasting {base tb : Nat} {T : TS} {V : TV} (a key v : Nat) (w : World) (h : Tr base tb T V w) (hn : V.n < 1000000000) :
  Calls Tryz.prog 159 #[.pointer (some ⟨tb, 0, none⟩), cellV 1 a key, wv v] w fun e w' => e = .returned (.tuple #[]) ∧ TTo base tb T V (putT T 1 a key v) 2 w w' := by
 have h2 := h.below (p2_below w 1 a key v)
 have HS := hid_of (setSlot_T a key v _ h2 hn)
 have HB := hid_of (p2_below w 1 a key v)
 have c0 := h2.row.cell (i := 0) (by decide)
 rw [show trC V 0 = .map (some V.ab) from rfl] at c0
 clear h h2
 go_enter Tryz.func159, Tryz.ntmps159
 go_wp2
 go_region_with (refine HS.out.mono ?_; rintro e w1 ⟨rfl, hto⟩)
 all_goals (
  have HO : Hid (TTo base tb T V (putT T 1 a key v) 2 w w1) := hto.pre HB.out
  clear hto
  go_wp2
  go_end0
  exact ⟨rfl, HO.out⟩)
end
section
open Go.RowKit
section
variable {P : Program} {ops : Array Oper} {Q : Exit → Act → World → Prop}
theorem wpAny_st (G : Array Bool → Act → World → Prop)
  (hstep : ∀ (l : Array Bool) (i : Nat) (o : Oper), l.size = ops.size → ops[i]? = some o → l.getD i false = false → (∀ e ∈ o.after, Region.binds .any e = true → l.getD e.on false = true) → ∀ a w, G l a w →
   wpOp P ops Q i (fun a' w' => G (l.setIfInBounds i true) a' w') a w)
  (hdone : ∀ (l : Array Bool) a w, l.size = ops.size → (∀ i, i < ops.size → l.getD i false = true) → G l a w → Q .normal a w)
  (hall : ∀ l : Array Bool, l.size = ops.size → Region.ready .any ops l = [] → ∀ i, i < ops.size → l.getD i false = true) :
  ∀ (fuel : Nat) (listed : Array Bool) (a : Act) (w : World), (List.range ops.size).countP (fun i => !listed.getD i true) ≤ fuel → listed.size = ops.size →
   G listed a w → wpAny P .any ops Q fuel listed a w := by
 intro fuel
 induction fuel with
 | zero =>
  intro listed a w hc hs hG
  have h0 : Region.ready .any ops listed = [] := by
   apply List.eq_nil_iff_forall_not_mem.2
   intro i hi
   simp only [Region.ready, List.mem_filter, Bool.and_eq_true] at hi
   have hz : (List.range ops.size).countP (fun i => !listed.getD i true) = 0 := by omega
   rw [List.countP_eq_zero] at hz
   exact hz i hi.1 hi.2.1
  exact ⟨h0, hdone listed a w hs (hall _ hs h0) hG⟩
 | succ fuel ih =>
  intro listed a w hc hs hG
  refine ⟨fun h0 => hdone listed a w hs (hall _ hs h0) hG, fun i hi => ?_⟩
  simp only [Region.ready, List.mem_filter, Bool.and_eq_true, List.mem_range] at hi
  obtain ⟨hlt, hl, haft⟩ := hi
  have ho : ops[i]? = some ops[i] := getElem?_pos ops i hlt
  rw [ho] at haft
  simp only [Option.map_some, Option.getD_some, Array.all_eq_true', Bool.or_eq_true, Bool.not_eq_true'] at haft
  have hli : i < listed.size := by omega
  have hnf : listed.getD i false = false := by
   simp only [Array.getD_eq_getD_getElem?, getElem?_pos listed i hli, Option.getD_some] at hl ⊢
   simpa using hl
  refine wpOp_mono ?_ (hstep listed i _ hs ho hnf (fun e he hb => (haft e he).resolve_left (by rw [hb]; simp)) a w hG)
  intro a' w' hG'
  refine ih _ a' w' ?_ (by simp [hs]) hG'
  have := countP_lt (p := fun i => !listed.getD i true) (p' := fun j => !(listed.setIfInBounds i true).getD j true) ?_ (List.range ops.size) i (by simpa using hlt) (by simpa using hl) ?_
  ·omega
  ·intro j hj
   simp only [Array.getD_eq_getD_getElem?, Array.getElem?_setIfInBounds] at hj ⊢
   by_cases e : i = j
   ·subst e; simp [hli] at hj
   ·simpa [e] using hj
  ·simp [Array.getD_eq_getD_getElem?, hli]
theorem wp_region_st {id : Nat} {a : Act} {w : World} (hm : P.follows .mixedOrders = true) (hdown : downB ops = true) (G : Array Bool → Act → World → Prop) (h0 : G (Array.replicate ops.size false) a w.drew)
  (hstep : ∀ (l : Array Bool) (i : Nat) (o : Oper), l.size = ops.size → ops[i]? = some o → l.getD i false = false → (∀ e ∈ o.after, Region.binds .any e = true → l.getD e.on false = true) → ∀ a w, G l a w →
   wpOp P ops Q i (fun a' w' => G (l.setIfInBounds i true) a' w') a w)
  (hdone : ∀ (l : Array Bool) a w, l.size = ops.size → (∀ i, i < ops.size → l.getD i false = true) → G l a w → Q .normal a w) : (Code.region id ops true).wp P Q a w := by
 refine wp_region_any hm (wpAny_st G hstep hdone (hall_of hdown) _ _ a _ ?_ (by simp) h0)
 exact Nat.le_trans List.countP_le_length (by simp)
end
variable {s : Act} {x : World} {pos : String} {af : Array Edge} {g : Option (Nat × Bool)} {K : Act → World → Prop} {Q : Exit → Act → World → Prop}
theorem st_callP {f d : Nat} {xs : Array Operand} {vs : Array Value} {A : Array TypeId} {ty : TypeId} {Post : Ending → World → Prop} (hf : Own f) (hv : #[] ++ xs.map s.eval ++ #[] = vs) (hc : Calls Tryz.prog f vs x Post)
  (hK : ∀ e x', Post e x' → (∃ r, e = .returned r ∧ K (s.put (some d) r) x') ∨ (∃ ch, e = .panicked ch ∧ Q (.panic ch) s x')) :
  Oper.wp Tryz.prog ⟨some d, .call ⟨.value (.func f), xs, A⟩, ty, pos, af, g⟩ s x K Q := by
 unfold Oper.wp
 rw [execOp_call_go, hv, hf]
 rw [Oper.upon_enter]
 refine hc.mono ?_
 intro e y h
 rcases hK e y h with ⟨r, rfl, h2⟩ | ⟨ch, rfl, h2⟩
 ·exact h2
 ·exact h2
theorem st_nil {t d : Nat} {ty : TypeId} {ad : Addr} (he : s.tmps.getD t undef = .pointer (some ad)) (hK : K (s.put (some d) (.pointer (some ad))) x) :
  Oper.wp Tryz.prog ⟨some d, .nilCheck (.tmp t), ty, pos, af, g⟩ s x K Q := by
 have he2 : s.eval (.tmp t) = .pointer (some ad) := he
 go_simp
 exact hK
end
section
open Go.RowKit Go.Maps
set_option maxRecDepth 100000
theorem own_get : Own 202 := fun _ _ => by kernel_rfl
theorem info_ch : (Tryz.prog.info? 220).map (fun i => (i.zero, i.size, i.bytes)) = some (some (.agg #[.int .i64 0, .int .u64 0, .int .u64 0, .int .u64 0, .int .u64 0, .int .u64 0, .int .u64 0, .int .u64 0, .int .u64 0, .int .u64 0, .int .u64 0, .int .u64 0, .int .u64 0]), 13, 104) := by kernel_rfl
theorem ty_ch : Tryz.prog.underlying 129 = some (.slice 220) := by kernel_rfl
def setT (T : TS) (kind a key v : Nat) : TS := putT { T with ch := T.ch ++ [⟨kind, a, key, getT T kind a key⟩] } kind a key v
theorem chL_snoc (l : List Chg) (c : Chg) : chL (l ++ [c]) = chL l ++ chC c := by simp [chL]
theorem trC_cv (V : TV) (v' : Value) : (fun i => if i = 2 then v' else trC V i) = trC { V with cv := v' } := by
 funext i
 by_cases h : i = 2
 ·subst h; rfl
 ·simp only [trC, if_neg h]
theorem tCh_Lo : (220 : Nat) ≠ 112 := by decide
theorem tCh_Wd : (220 : Nat) ≠ 24 := by decide
theorem tTr_Ch : (131 : Nat) ≠ 220 := by decide
theorem tTr_Lo : (131 : Nat) ≠ 112 := by decide
theorem tTr_Wd : (131 : Nat) ≠ 24 := by decide
theorem Tr.ch_to {base tb : Nat} {T : TS} {V : TV} {w w' : World} {v' : Value} {c' : List Chg} (h : Tr base tb T V w) (hu : Up V.cv.ownBlock.toList tb 2 v' w w') (ho : w'.ownsRow base 220 13 v' c'.length (chL c')) (hf : Fresh w V.cv v') (hcb : ∀ k, V.cv.ownBlock = some k → base ≤ k) :
  Tr base tb { T with ch := c' } { V with cv := v' } w' ∧ TTo base tb T V { T with ch := c' } 0 w w' := by
 have hS : ∀ k ∈ tb :: V.cv.ownBlock.toList, k = tb ∨ V.cv.ownBlock = some k := fun k hk => by simpa using hk
 have hnm : ∀ k, (∃ es cl, w.heap[k]? = some (.map es cl)) → k ∉ tb :: V.cv.ownBlock.toList := fun k hm hk => by
  rcases hS k hk with e | e
  ·exact row_map_ne h.row hm e.symm
  ·exact own_map_ne h.ch hm e
 have hdis : ∀ {e size n v xs b}, w.ownsRow b e size v n xs → 131 ≠ e → 220 ≠ e → ∀ k, v.ownBlock = some k → k ∉ tb :: V.cv.ownBlock.toList := fun ho h1 h2 k hk hm => by
  rcases hS k hm with e | e
  ·exact row_own_ne h.row ho h1 k hk e
  ·rcases own_ne h.ch ho h2 with e2 | e2
   ·rw [e] at e2; cases e2
   ·exact e2 (e.trans hk.symm)
 have h0 : 0 ∉ tb :: V.cv.ownBlock.toList := fun hm => by
  rcases hS 0 hm with e | e
  ·have h1 := h.row.cell (i := 0) (by decide)
   rw [← e] at h1
   rw [h.zr.1.1] at h1
   cases h1
  ·have := hcb 0 e
   have := h.hb1
   omega
 have hT : Tr base tb { T with ch := c' } { V with cv := v' } w' := by
  refine ⟨?_, h.acc.kb hu.kb (fun k hk hm => hnm k (h.acc.isMap hm) hk), h.pas.kb hu.kb (hnm _ h.pas.is), ho, h.lo.kb hu.kb (hdis h.lo.2.1 tTr_Lo tCh_Lo) (fun t ht => by obtain ⟨l, hl⟩ := h.lo.tv ht; exact hdis hl tTr_Wd tCh_Wd), h.zr.kb hu.kb h0, Nat.le_trans h.hb hu.kb.size, h.hb1, h.pn⟩
  rw [← trC_cv]
  exact hu.row h.row
 refine ⟨hT, _, _, hT, Nat.le_refl _, hu.kb, fun k hk => ?_, fun k hk => ?_, rfl⟩
 ·rcases hS k hk with e | e
  ·exact Or.inl e
  ·exact Or.inr (Or.inr (Or.inr (Or.inl e)))
 ·rcases hk with e | e | e | e | e
  ·exact Or.inl (Or.inl e)
  ·exact Or.inl (Or.inr (Or.inl e))
  ·exact Or.inl (Or.inr (Or.inr (Or.inl e)))
  ·rcases hf with e2 | e2
   ·exact Or.inl (Or.inr (Or.inr (Or.inr (Or.inl (e2 ▸ e)))))
   ·exact Or.inr (e2 k e)
  ·exact Or.inl (Or.inr (Or.inr (Or.inr (Or.inr e))))
theorem cells_of {S : List Nat} {w x : World} {a key v kind : Nat} (hk : Kb S (p2 w kind a key v) x) (h1 : w.heap.size ∉ S) (h2 : w.heap.size + 1 ∉ S) :
  (x.cell? ⟨w.heap.size, 0, none⟩ = some (.int .i64 (kind : Int)) ∧ x.cell? ⟨w.heap.size, 1, none⟩ = some (.int .u64 (limb a 0)) ∧ x.cell? ⟨w.heap.size, 2, none⟩ = some (.int .u64 (limb a 1)) ∧ x.cell? ⟨w.heap.size, 3, none⟩ = some (.int .u64 (limb a 2)) ∧ x.cell? ⟨w.heap.size, 4, none⟩ = some (.int .u64 (limb a 3)) ∧
   x.cell? ⟨w.heap.size, 5, none⟩ = some (.int .u64 (limb key 0)) ∧ x.cell? ⟨w.heap.size, 6, none⟩ = some (.int .u64 (limb key 1)) ∧ x.cell? ⟨w.heap.size, 7, none⟩ = some (.int .u64 (limb key 2)) ∧ x.cell? ⟨w.heap.size, 8, none⟩ = some (.int .u64 (limb key 3))) ∧
  (x.cell? ⟨w.heap.size + 1, 0, none⟩ = some (.int .u64 (limb v 0)) ∧ x.cell? ⟨w.heap.size + 1, 1, none⟩ = some (.int .u64 (limb v 1)) ∧ x.cell? ⟨w.heap.size + 1, 2, none⟩ = some (.int .u64 (limb v 2)) ∧ x.cell? ⟨w.heap.size + 1, 3, none⟩ = some (.int .u64 (limb v 3))) := by
 have q1 : ∀ i, x.cell? ⟨w.heap.size, i, none⟩ = (p2 w kind a key v).cell? ⟨w.heap.size, i, none⟩ := fun i => World.cell?_of_block (hk.block _ (by simp; omega) h1)
 have q2 : ∀ i, x.cell? ⟨w.heap.size + 1, i, none⟩ = (p2 w kind a key v).cell? ⟨w.heap.size + 1, i, none⟩ := fun i => World.cell?_of_block (hk.block _ (by simp) h2)
 simp only [q1, q2]
 simp [go_sem]
end
section
open Go.RowKit
set_option maxRecDepth 100000
theorem place_ok (fb o k n cap : Nat) (ad : Option Addr) (w : World) (hc : w.cell? ⟨fb, o, none⟩ = some (.slice ad n cap)) (hn : n ≤ 1024) (hk : k < n) :
  Calls Tryz.prog 273 #[.pointer (some ⟨fb, o, none⟩), .int .i64 (k : Int)] w fun e w' => e = .returned (.int .i64 ((n - 1 - k : Nat) : Int)) ∧ w' = w := by
 have d : decide ((n : Int) ≤ (k : Int)) = false := decide_eq_false (by omega)
 go_enter Tryz.func273, Tryz.ntmps273
 go_wp2
 go_ret
 exact ⟨congrArg (fun z => Ending.returned (Value.int .i64 z)) (by omega), rfl⟩
theorem place_no (fb o k n cap : Nat) (ad : Option Addr) (w : World) (hc : w.cell? ⟨fb, o, none⟩ = some (.slice ad n cap)) (hn : n ≤ 1024) (hk : n ≤ k) (hk2 : k ≤ 1024) :
  Calls Tryz.prog 273 #[.pointer (some ⟨fb, o, none⟩), .int .i64 (k : Int)] w fun e w' => Pan e ∧ w' = w := by
 have d : decide ((n : Int) ≤ (k : Int)) = true := decide_eq_true (by omega)
 go_enter Tryz.func273, Tryz.ntmps273
 go_wp2
 exact ⟨rfl, ⟨_, _, rfl⟩, rfl⟩
theorem wcells_at : ∀ (l : List Nat) (j : Nat) (h : j < l.length) (i : Nat), i < 4 → (wcells l)[j * 4 + i]? = some (.int .u64 (limb l[j] i))
 | n :: l, 0, h, i, hi => by
  rw [Nat.zero_mul, Nat.zero_add]
  rcases k4 hi with rfl | rfl | rfl | rfl <;> rfl
 | n :: l, j + 1, h, i, hi => by
  have ih := wcells_at l j (by simpa using h) i hi
  rw [show (j + 1) * 4 + i = (j * 4 + i) + 4 by omega]
  exact ih
theorem wcells_take (l m : List Nat) : (wcells (l ++ m)).take (l.length * 4) = wcells l := by
 unfold wcells
 rw [List.flatMap_append, List.take_append_of_le_length (by have := wcells_len l; unfold wcells at this; omega), List.take_of_length_le (by have := wcells_len l; unfold wcells at this; omega)]
theorem Wds.trunc {w : World} {base g cap : Nat} {l m : List Nat} (h : Wds w base (.slice (some ⟨g, 0, none⟩) (l ++ m).length cap) (l ++ m)) : Wds w base (.slice (some ⟨g, 0, none⟩) l.length cap) l := by
 refine ⟨wcells_len l, ?_⟩
 rcases h.2 with ⟨h1, h2⟩ | ⟨g', cap', cur, h1, h2, h3, h4, h5, h6, h7⟩
 ·cases h1
 ·injection h1 with e1 e2 e3
  injection e1 with e1
  injection e1 with e1
  subst e1 e3
  refine Or.inr ⟨g, cap, cur, rfl, h2, h3, by rw [List.length_append] at h4; omega, h5, h6, ?_⟩
  rw [← wcells_take l m, ← h7, List.take_take]
  congr 1
  rw [List.length_append]
  omega
theorem Wds.at {w : World} {base g cap n : Nat} {l : List Nat} (h : Wds w base (.slice (some ⟨g, 0, none⟩) l.length cap) l) {j : Nat} (hj : j < l.length) (hn : l[j] = n) :
  w.cell? ⟨g, j * 4, none⟩ = some (.int .u64 (limb n 0)) ∧ w.cell? ⟨g, j * 4 + 1, none⟩ = some (.int .u64 (limb n 1)) ∧ w.cell? ⟨g, j * 4 + 2, none⟩ = some (.int .u64 (limb n 2)) ∧ w.cell? ⟨g, j * 4 + 3, none⟩ = some (.int .u64 (limb n 3)) := by
 subst hn
 have e : ∀ i, i < 4 → w.cell? ⟨g, j * 4 + i, none⟩ = some (.int .u64 (limb l[j] i)) := fun i hi => (World.ownsRow.cellAt h (j * 4 + i) (by omega)).trans (wcells_at l j hj i hi)
 exact ⟨e 0 (by omega), e 1 (by omega), e 2 (by omega), e 3 (by omega)⟩
set_option maxHeartbeats 2000000 in
theorem pop_ok {T N : Nat} {f : Nat → Value} (fb o n base : Nat) (l : List Nat) (v : Value) (w : World) (hr : w.rowIs fb T N f) (ho : o < N) (hv : f o = v) (hT : T ≠ 24) (hs : Wds w base v (l ++ [n])) (hl : l.length < 1024) :
  Calls Tryz.prog 257 #[.pointer (some ⟨fb, o, none⟩)] w fun e w' => e = .returned (wv n) ∧ ∃ v', Wds w' base v' l ∧ v'.ownBlock = v.ownBlock ∧ Up [] fb o v' w w' := by
 have hlt := hr.lt
 have hfb := row_own_ne hr hs hT
 obtain ⟨g, cap, rfl, hg1, hg2, hg3⟩ := own_shape hs (by simp)
 have hgf : g ≠ fb := hfb g rfl
 have hlen : (l ++ [n]).length = l.length + 1 := by simp
 rw [hlen] at hv hg3
 obtain ⟨Z, HZ⟩ : ∃ Z : World, Hid (Z = w.alloc (.cells #[.int .u64 0, .int .u64 0, .int .u64 0, .int .u64 0] 24)) := ⟨_, rfl⟩
 have hbz : Below w.heap.size w Z := by rw [HZ.out]; exact bal (Below.refl _ w) _
 have hz0 : Z.rowIs w.heap.size 24 4 (u64s fun _ => 0) := by rw [HZ.out]; exact row_lit4 (fun _ => 0) rfl rfl rfl rfl rfl
 have hrz := row_below hr hbz
 have hsz : Z.heap.size = w.heap.size + 1 := by rw [HZ.out]; simp
 have hwz : Wds Z base (.slice (some ⟨g, 0, none⟩) (l ++ [n]).length cap) (l ++ [n]) := ownsRow_below hs hbz
 have hc : Z.cell? ⟨fb, o, none⟩ = some (.slice (some ⟨g, 0, none⟩) (l.length + 1) cap) := (hrz.cell ho).trans (congrArg some hv)
 have HP : Hid (∀ w : World, w.cell? ⟨fb, o, none⟩ = some (.slice (some ⟨g, 0, none⟩) (l.length + 1) cap) → Calls Tryz.prog 273 #[.pointer (some ⟨fb, o, none⟩), .int .i64 0] w fun e w' => e = .returned (.int .i64 (l.length : Int)) ∧ w' = w) := fun w h => (place_ok fb o 0 (l.length + 1) cap (some ⟨g, 0, none⟩) w h (by omega) (by omega)).mono fun e w' ⟨h1, h2⟩ => ⟨by rw [h1]; rfl, h2⟩
 obtain ⟨c0, c1, c2, c3⟩ := hwz.at (j := l.length) (n := n) (by simp) (by simp)
 have hfz := hrz.frozen o
 obtain ⟨z0, z1, z2, z3⟩ := row_cells4 hz0
 have fz := hz0.frozen
 have HS := hid_of hwz.trunc
 have HB := hid_of hbz
 have HR := hid_of hrz
 have HZ0 := hid_of hz0
 clear hs hfb hr hwz hbz hrz hz0 hv
 go_enter Tryz.func257, Tryz.ntmps257
 go_wp2_with fail
 rw [← HZ.out]
 refine (HP.out _ hc).mono ?_
 rintro e w1 ⟨rfl, rfl⟩
 clear HZ HP
 go_wp2
 have k1 : Kb [w.heap.size] (w1.setCell ⟨fb, o, none⟩ (.slice (some ⟨g, 0, none⟩) l.length cap)) ((((((w1.setCell ⟨fb, o, none⟩ (.slice (some ⟨g, 0, none⟩) l.length cap)).setCell ⟨w.heap.size, 0, none⟩ (.int .u64 (limb n 0))).setCell ⟨w.heap.size, 1, none⟩ (.int .u64 (limb n 1))).setCell ⟨w.heap.size, 2, none⟩ (.int .u64 (limb n 2))).setCell ⟨w.heap.size, 3, none⟩ (.int .u64 (limb n 3))).alloc (wc n)) :=
  (((((Kb.refl _ _).setCell (Or.inl (by simp)) _).setCell (Or.inl (by simp)) _).setCell (Or.inl (by simp)) _).setCell (Or.inl (by simp)) _).alloc _
 have hrow := (row_put4 (HZ0.out.setOther (a := ⟨fb, o, none⟩) (by show w.heap.size ≠ fb; omega) (.slice (some ⟨g, 0, none⟩) l.length cap)) (limb n) rfl rfl rfl rfl).alloc (wc n)
 obtain ⟨q0, q1, q2, q3⟩ := row_cells4 hrow
 refine bodyPost_ret (v := wv n) (by simp [results, Tryz.results257, go_sem, q0, q1, q2, q3]) rfl ⟨rfl, .slice (some ⟨g, 0, none⟩) l.length cap, ?_, rfl, ?_⟩
 ·exact k1.own (own_set HS.out (fun k hk => by obtain rfl : g = k := (by simpa [Value.ownBlock] using hk); exact hgf) o _) (fun k hk => by obtain rfl : g = k := (by simpa [Value.ownBlock] using hk); simp; omega)
 ·have u1 : Up [] fb o (.slice (some ⟨g, 0, none⟩) l.length cap) w (w1.setCell ⟨fb, o, none⟩ (.slice (some ⟨g, 0, none⟩) l.length cap)) := Up.mk' _ (Kb.of_below HB.out) (by simp) hlt
  exact ⟨u1.kb.trans k1 (by simp), fun hr => k1.row (u1.row hr) (by simp; omega)⟩
end
section
open Go.RowKit
structure FS where
 trail : Value
 code : ByteArray
 jd : Value
 self : Nat
 caller : Nat
 value : Nat
 data : ByteArray
 gas : Nat
 ro : Bool
 depth : Nat
 st : List Nat
 mem : List UInt8
 ret : ByteArray
 pc : Nat
 nx : Nat
 ended : Bool
 status : Nat
 out : ByteArray
def FS.cell (F : FS) (sv mv : Value) (i : Nat) : Value :=
 if i = 0 then F.trail else
 if i = 1 then .string F.code else
 if i = 2 then F.jd else
 if i = 3 + 0 then .int .u64 (limb F.self 0) else
 if i = 3 + 1 then .int .u64 (limb F.self 1) else
 if i = 3 + 2 then .int .u64 (limb F.self 2) else
 if i = 3 + 3 then .int .u64 (limb F.self 3) else
 if i = 7 + 0 then .int .u64 (limb F.caller 0) else
 if i = 7 + 1 then .int .u64 (limb F.caller 1) else
 if i = 7 + 2 then .int .u64 (limb F.caller 2) else
 if i = 7 + 3 then .int .u64 (limb F.caller 3) else
 if i = 11 + 0 then .int .u64 (limb F.value 0) else
 if i = 11 + 1 then .int .u64 (limb F.value 1) else
 if i = 11 + 2 then .int .u64 (limb F.value 2) else
 if i = 11 + 3 then .int .u64 (limb F.value 3) else
 if i = 15 then .string F.data else
 if i = 16 then .int .i64 (F.gas : Int) else
 if i = 17 then .bool F.ro else
 if i = 18 then .int .i64 (F.depth : Int) else
 if i = 19 then sv else
 if i = 20 then mv else
 if i = 21 then .string F.ret else
 if i = 22 then .int .i64 (F.pc : Int) else
 if i = 23 then .int .i64 (F.nx : Int) else
 if i = 24 then .bool F.ended else
 if i = 25 then .int .u8 (F.status : Int) else
 if i = 26 then .string F.out else
 undef
def jdF (code : ByteArray) : Nat → Nat → List Bool → List Bool
 | 0, _, acc => acc
 | f + 1, i, acc => if i < code.size then
   jdF code f (i + 1 + (if 95 < byt code i ∧ byt code i ≤ 127 then byt code i - 95 else 0)) (if byt code i = 91 then acc.set i true else acc)
  else acc
def jdL (code : ByteArray) : List Bool := jdF code code.size 0 (List.replicate (code.size + 1) false)
def Jds (w : World) (jd : Value) (code : ByteArray) : Prop := ∃ g cap : Nat, jd = .slice (some ⟨g, 0, none⟩) (code.size + 1) cap ∧ w.rowIs g 4 (code.size + 1) (fun i => .bool ((jdL code).getD i false))
structure Fr (base fb : Nat) (F : FS) (S : List Nat) (sv mv : Value) (w : World) : Prop where
 row : w.rowIs fb 137 27 (F.cell sv mv)
 st : Wds w base sv F.st.reverse
 me : Bys w base mv F.mem
 foot : S = fb :: (sv.ownBlock.toList ++ mv.ownBlock.toList)
 stl : F.st.length ≤ 1024
 mel : F.mem.length ≤ 65536
 gal : F.gas ≤ 100000
 hb : base ≤ w.heap.size
 zr : ∀ i, i < 4 → w.cell? ⟨0, i, none⟩ = some (.int .u64 0)
 hb1 : 0 < base
 hfb : base ≤ fb
 m32 : F.mem.length % 32 = 0
 jr : Jds w F.jd F.code
theorem Jds.kb {w w' : World} {jd : Value} {code : ByteArray} {S : List Nat} (h : Jds w jd code) (hk : Kb S w w') (hS : ∀ g N f, w.rowIs g 4 N f → g ∉ S) : Jds w' jd code := by
 obtain ⟨g, cap, h1, h2⟩ := h
 exact ⟨g, cap, h1, hk.row h2 (hS _ _ _ h2)⟩
theorem tb1 : (4 : Nat) ≠ 24 := by decide
theorem tb2 : (4 : Nat) ≠ 5 := by decide
theorem tb3 : (4 : Nat) ≠ 137 := by decide
theorem row_row_ne {w : World} {a b : Nat} {T T' : TypeId} {N N' : Nat} {f f' : Nat → Value} (h : w.rowIs a T N f) (h' : w.rowIs b T' N' f') (ht : T ≠ T') : a ≠ b := fun e => by
 subst e
 obtain ⟨c, h1, _⟩ := h
 obtain ⟨c', h2, _⟩ := h'
 rw [h1] at h2
 injection h2 with h2
 injection h2 with _ h3
 exact ht h3
theorem Fr.bno {base fb : Nat} {F : FS} {S : List Nat} {sv mv : Value} {w : World} (h : Fr base fb F S sv mv w) : ∀ g N f, w.rowIs g 4 N f → g ∉ S := by
 intro g N f hr hm
 rw [h.foot] at hm
 rcases List.mem_cons.1 hm with h1 | h1
 ·exact row_row_ne hr h.row tb3 h1
 ·rcases List.mem_append.1 h1 with h2 | h2
  ·exact row_own_ne hr h.st tb1 g (by simpa using h2) rfl
  ·exact row_own_ne hr h.me tb2 g (by simpa using h2) rfl
theorem zr_kb {S : List Nat} {w w' : World} (h : ∀ i, i < 4 → w.cell? ⟨0, i, none⟩ = some (.int .u64 0)) (hk : Kb S w w') (h0 : 0 ∉ S) (hs : 0 < w.heap.size) : ∀ i, i < 4 → w'.cell? ⟨0, i, none⟩ = some (.int .u64 0) :=
 fun i hi => (World.cell?_of_block (w := w) (hk.block 0 hs h0)).trans (h i hi)
theorem Fr.low {base fb : Nat} {F : FS} {S : List Nat} {sv mv : Value} {w : World} (h : Fr base fb F S sv mv w) : ∀ k ∈ S, base ≤ k := by
 intro k hk
 rw [h.foot] at hk
 rcases List.mem_cons.1 hk with h1 | h1
 ·rw [h1]; exact h.hfb
 ·rcases List.mem_append.1 h1 with h2 | h2
  ·exact (h.st.lt k (by simpa using h2)).1
  ·exact (h.me.lt k (by simpa using h2)).1
theorem Fr.no0 {base fb : Nat} {F : FS} {S : List Nat} {sv mv : Value} {w : World} (h : Fr base fb F S sv mv w) : 0 ∉ S := fun hm => by
 have := h.low 0 hm
 have := h.hb1
 omega
theorem Fr.hs {base fb : Nat} {F : FS} {S : List Nat} {sv mv : Value} {w : World} (h : Fr base fb F S sv mv w) : 0 < w.heap.size := Nat.lt_of_lt_of_le h.hb1 h.hb
def To (base fb : Nat) (F' : FS) (S : List Nat) (w w' : World) : Prop := ∃ S' sv mv, Fr base fb F' S' sv mv w' ∧ Kb S w w' ∧ ∀ k ∈ S', k ∈ S ∨ w.heap.size ≤ k
theorem To.trans {base fb : Nat} {F1 F2 : FS} {S : List Nat} {w w1 w2 : World} (h : To base fb F1 S w w1) (k : ∀ S1 sv mv, Fr base fb F1 S1 sv mv w1 → To base fb F2 S1 w1 w2) : To base fb F2 S w w2 := by
 obtain ⟨S1, sv, mv, h1, h2, h3⟩ := h
 obtain ⟨S2, sv2, mv2, k1, k2, k3⟩ := k S1 sv mv h1
 refine ⟨S2, sv2, mv2, k1, h2.trans k2 h3, fun i hi => ?_⟩
 rcases k3 i hi with h4 | h4
 ·exact h3 i h4
 ·exact Or.inr (Nat.le_trans h2.size h4)
theorem Fr.to {base fb : Nat} {F : FS} {S : List Nat} {sv mv : Value} {w : World} (h : Fr base fb F S sv mv w) : To base fb F S w w := ⟨S, sv, mv, h, Kb.refl _ _, fun k hk => Or.inl hk⟩
theorem Fr.below {base fb : Nat} {F : FS} {S : List Nat} {sv mv : Value} {w w' : World} (h : Fr base fb F S sv mv w) (hb : Below w.heap.size w w') : Fr base fb F S sv mv w' :=
 ⟨row_below h.row hb, ownsRow_below h.st hb, ownsRow_below h.me hb, h.foot, h.stl, h.mel, h.gal, Nat.le_trans h.hb hb.size, zr_kb h.zr (Kb.of_below (S := []) hb) (by simp) h.hs, h.hb1, h.hfb, h.m32, h.jr.kb (Kb.of_below (S := []) hb) (fun _ _ _ _ => by simp)⟩
def Out {α : Type} (r : Option (α × FS)) (val : α → Value) (base fb : Nat) (S : List Nat) (w : World) (e : Ending) (w' : World) : Prop :=
 match r with
 | some (a, F') => e = .returned (val a) ∧ To base fb F' S w w'
 | none => Pan e ∧ Kb S w w'
def unitV : Unit → Value := fun _ => .tuple #[]
def pushF (n : Nat) (F : FS) : Option (Unit × FS) := if F.st.length = 1024 then none else some ((), { F with st := n :: F.st })
def popF (F : FS) : Option (Nat × FS) := match F.st with
 | [] => none
 | n :: r => some (n, { F with st := r })
def payF (c : Nat) (F : FS) : Option (Unit × FS) := if F.gas < c then none else some ((), { F with gas := F.gas - c })
theorem cell_sv (F : FS) (sv mv v' : Value) (st : List Nat) : (fun i => if i = 19 then v' else F.cell sv mv i) = ({ F with st := st } : FS).cell v' mv := by
 funext i
 by_cases h : i = 19
 ·subst h; rfl
 ·simp only [FS.cell, if_neg h]
theorem cell_gas (F : FS) (sv mv : Value) (g : Nat) : (fun i => if i = 16 then .int .i64 (g : Int) else F.cell sv mv i) = ({ F with gas := g } : FS).cell sv mv := by
 funext i
 by_cases h : i = 16
 ·subst h; rfl
 ·simp only [FS.cell, if_neg h]
theorem tF : (137 : Nat) ≠ 24 := by decide
theorem tB : (137 : Nat) ≠ 5 := by decide
theorem tWB : (24 : Nat) ≠ 5 := by decide
theorem Fr.fm {base fb : Nat} {F : FS} {S : List Nat} {sv mv : Value} {w : World} (h : Fr base fb F S sv mv w) : ∀ k, mv.ownBlock = some k → k ≠ fb := row_own_ne h.row h.me tB
theorem Fr.fs {base fb : Nat} {F : FS} {S : List Nat} {sv mv : Value} {w : World} (h : Fr base fb F S sv mv w) : ∀ k, sv.ownBlock = some k → k ≠ fb := row_own_ne h.row h.st tF
theorem Fr.sm {base fb : Nat} {F : FS} {S : List Nat} {sv mv : Value} {w : World} (h : Fr base fb F S sv mv w) : ∀ k, mv.ownBlock = some k → k ∉ fb :: sv.ownBlock.toList := fun k hk hm => by
 rcases List.mem_cons.1 hm with h1 | h1
 ·exact h.fm k hk h1
 ·have h2 : sv.ownBlock = some k := by simpa using h1
  rcases own_ne h.me h.st (Ne.symm tWB) with h3 | h3
  ·rw [h3] at hk; cases hk
  ·exact h3 (hk.trans h2.symm)
theorem Fr.stack {base fb : Nat} {F : FS} {S : List Nat} {sv mv v' : Value} {w w' : World} {st : List Nat} (h : Fr base fb F S sv mv w) (hl : st.length ≤ 1024) (hw : Wds w' base v' st.reverse) (hf : Fresh w sv v') (hu : Up sv.ownBlock.toList fb 19 v' w w') : To base fb { F with st := st } S w w' := by
 refine ⟨_, v', mv, ⟨(cell_sv F sv mv v' st) ▸ hu.row h.row, hw, hu.kb.own h.me h.sm, rfl, hl, h.mel, h.gal, Nat.le_trans h.hb hu.kb.size, zr_kb h.zr hu.kb (fun hm => h.no0 (by rw [h.foot]; rcases List.mem_cons.1 hm with e | e; simp [e]; exact List.mem_cons_of_mem _ (List.mem_append_left _ e))) h.hs, h.hb1, h.hfb, h.m32, h.jr.kb hu.kb (fun g N f hr hm => h.bno g N f hr (by rw [h.foot]; rcases List.mem_cons.1 hm with e | e; simp [e]; exact List.mem_cons_of_mem _ (List.mem_append_left _ e)))⟩, ?_, ?_⟩
 ·rw [h.foot]
  exact hu.kb.mono (fun i hi => by rcases List.mem_cons.1 hi with h1 | h1; simp [h1]; exact List.mem_cons_of_mem _ (List.mem_append_left _ h1))
 ·intro k hk
  rw [h.foot]
  rcases List.mem_cons.1 hk with h1 | h1
  ·exact Or.inl (by simp [h1])
  ·rcases List.mem_append.1 h1 with h2 | h2
   ·have h3 : v'.ownBlock = some k := by simpa using h2
    rcases hf with h4 | h4
    ·exact Or.inl (List.mem_cons_of_mem _ (List.mem_append_left _ (by rw [← h4]; exact h2)))
    ·exact Or.inr (h4 k h3)
   ·exact Or.inl (List.mem_cons_of_mem _ (List.mem_append_right _ h2))
theorem push_I {base fb : Nat} {F : FS} {S : List Nat} {sv mv : Value} (n : Nat) (w : World) (h : Fr base fb F S sv mv w) :
  Calls Tryz.prog 259 #[.pointer (some ⟨fb, 19, none⟩), wv n] w (Out (pushF n F) unitV base fb S w) := by
 unfold pushF
 by_cases hl : F.st.length = 1024
 ·rw [if_pos hl]
  exact (push_full fb 19 n base F.st.reverse sv w h.row (by decide) rfl h.st (by simpa using hl)).mono fun e w' ⟨h1, h2⟩ => ⟨h1, Kb.of_below h2⟩
 ·rw [if_neg hl]
  refine (push_ok fb 19 n base F.st.reverse sv w h.row (by decide) rfl tF h.st (by have := h.stl; simp; omega) h.hb).mono fun e w' ⟨h1, v', h2, h3, h4⟩ => ⟨h1, h.stack (by have := h.stl; simp; omega) (by rw [List.reverse_cons]; exact h2) h3 h4⟩
end
section
open Go.RowKit
set_option maxHeartbeats 8000000
set_option maxRecDepth 100000
theorem pop_no {T N : Nat} {f : Nat → Value} (fb o cap : Nat) (ad : Option Addr) (w : World) (hr : w.rowIs fb T N f) (ho : o < N) (hv : f o = .slice ad 0 cap) :
  Calls Tryz.prog 257 #[.pointer (some ⟨fb, o, none⟩)] w fun e w' => Pan e ∧ Below w.heap.size w w' := by
 have hc : (w.alloc (.cells #[.int .u64 0, .int .u64 0, .int .u64 0, .int .u64 0] 24)).cell? ⟨fb, o, none⟩ = some (.slice ad 0 cap) := ((bal (Below.refl _ w) _).cell (by exact hr.lt)).trans ((hr.cell ho).trans (congrArg some hv))
 have HP := hid_of (place_no fb o 0 0 cap ad _ hc (by omega) (by omega) (by omega))
 clear hr hv
 go_enter Tryz.func257, Tryz.ntmps257
 go_wp2_with fail
 refine HP.out.mono ?_
 rintro e w1 ⟨⟨u, pv, rfl⟩, rfl⟩
 go_wp2
 exact ⟨rfl, ⟨_, _, rfl⟩, bal (Below.refl _ _) _⟩
theorem pop_I {base fb : Nat} {F : FS} {S : List Nat} {sv mv : Value} (w : World) (h : Fr base fb F S sv mv w) :
  Calls Tryz.prog 257 #[.pointer (some ⟨fb, 19, none⟩)] w (Out (popF F) wv base fb S w) := by
 unfold popF
 cases hs : F.st with
 | nil =>
  have h1 := h.st
  rw [hs] at h1
  obtain ⟨ad, cap, rfl⟩ := own_sl h1
  exact (pop_no fb 19 cap ad w h.row (by decide) rfl).mono fun e w' ⟨h1, h2⟩ => ⟨h1, Kb.of_below h2⟩
 | cons n r =>
  have h1 := h.st
  have hl := h.stl
  rw [hs] at h1 hl
  rw [List.reverse_cons] at h1
  refine (pop_ok fb 19 n base r.reverse sv w h.row (by decide) rfl tF h1 (by simp at hl ⊢; omega)).mono fun e w' ⟨h1, v', h2, h3, h4⟩ => ⟨h1, h.stack (by simp at hl; omega) h2 (Or.inl h3) ⟨h4.kb.mono (fun i hi => by rcases List.mem_cons.1 hi with e | e; simp [e]; cases e), h4.row⟩⟩
theorem Fr.own {base fb : Nat} {F F' : FS} {S : List Nat} {sv mv : Value} {w w' : World} (h : Fr base fb F S sv mv w) (hst : F'.st = F.st) (hme : F'.mem = F.mem) (hjd : F'.jd = F.jd) (hcd : F'.code = F.code) (hg : F'.gas ≤ 100000) (hr : w'.rowIs fb 137 27 (F'.cell sv mv)) (hk : Kb [fb] w w') : To base fb F' S w w' := by
 refine ⟨S, sv, mv, ⟨hr, by rw [hst]; exact hk.own h.st (fun k hk => by simpa using h.fs k hk), by rw [hme]; exact hk.own h.me (fun k hk => by simpa using h.fm k hk), h.foot, by rw [hst]; exact h.stl, by rw [hme]; exact h.mel, hg, Nat.le_trans h.hb hk.size, zr_kb h.zr hk (fun hm => h.no0 (by rw [h.foot]; simp at hm; simp [hm])) h.hs, h.hb1, h.hfb, by rw [hme]; exact h.m32, by rw [hjd, hcd]; exact h.jr.kb hk (fun g N f hr hm => h.bno g N f hr (by rw [h.foot]; simp at hm; simp [hm]))⟩, hk.mono (fun i hi => by rw [h.foot]; simp at hi; simp [hi]), fun k hk => Or.inl hk⟩
theorem pay_I {base fb : Nat} {F : FS} {S : List Nat} {sv mv : Value} (c : Nat) (hc : c ≤ 100000000) (w : World) (h : Fr base fb F S sv mv w) :
  Calls Tryz.prog 204 #[.pointer (some ⟨fb, 0, none⟩), .int .i64 (c : Int)] w (Out (payF c F) unitV base fb S w) := by
 have hg := h.row.cell (i := 16) (by decide)
 have hz := h.row.frozen 16
 rw [show F.cell sv mv 16 = .int .i64 (F.gas : Int) from rfl] at hg
 have hgl := h.gal
 unfold payF
 by_cases hl : F.gas < c
 ·have d : decide ((F.gas : Int) < (c : Int)) = true := decide_eq_true (by omega)
  rw [if_pos hl]
  go_enter Tryz.func204, Tryz.ntmps204
  go_wp2
  exact ⟨rfl, ⟨_, _, rfl⟩, Kb.refl _ _⟩
 ·have d : decide ((F.gas : Int) < (c : Int)) = false := decide_eq_false (by omega)
  rw [if_neg hl]
  have HH := hid_of h
  clear h
  go_enter Tryz.func204, Tryz.ntmps204
  go_wp2
  go_end0
  refine ⟨rfl, HH.out.own rfl rfl rfl rfl (by show F.gas - c ≤ _; omega) ?_ ((Kb.refl [fb] w).setCell (Or.inl (by simp)) _)⟩
  rw [← cell_gas F sv mv (F.gas - c)]
  refine (HH.out.row.set 16 _).congr fun i hi => ?_
  show (if i = _ then _ else _) = _
  by_cases e : i = 16
  ·rw [if_pos e, if_pos e]
   exact congrArg (Value.int .i64) (by omega)
  ·rw [if_neg e, if_neg e]
end
end cin
end Go.Proofs.YtohoajjdoihekaaGreatDoor
