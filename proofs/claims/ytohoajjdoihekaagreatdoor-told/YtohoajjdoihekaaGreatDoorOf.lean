import Derived.Test.YtohoajjdoihekaaGreatDoorNm
import Derived.Conc.RwLib
import Derived.Conc.MuData
import Derived.Conc.MuLone
import Derived.KernelRfl
import Derived.Lib.BufferWrite
import Derived.Lib.UnsafeStr
import Derived.Laws.MakeOwn
set_option linter.unusedVariables false
set_option linter.unusedSimpArgs false
namespace Go.Proofs.YtohoajjdoihekaaGreatDoor
namespace cin
section
open Go.RowKit Go.Maps
set_option maxHeartbeats 8000000
set_option maxRecDepth 100000
theorem Fr.own' {base fb : Nat} {F F' : FS} {S : List Nat} {sv mv : Value} {w w' : World} (h : Fr base fb F S sv mv w) (hst : F'.st = F.st) (hme : F'.mem = F.mem) (hjd : F'.jd = F.jd) (hcd : F'.code = F.code) (hg : F'.gas ≤ 100000) (hr : w'.rowIs fb 137 27 (F'.cell sv mv)) (hk : Kb [fb] w w') : Fr base fb F' S sv mv w' :=
 ⟨hr, by rw [hst]; exact hk.own h.st (fun k hk => by simpa using h.fs k hk), by rw [hme]; exact hk.own h.me (fun k hk => by simpa using h.fm k hk), h.foot, by rw [hst]; exact h.stl, by rw [hme]; exact h.mel, hg, Nat.le_trans h.hb hk.size, zr_kb h.zr hk (fun hm => h.no0 (by rw [h.foot]; simp at hm; simp [hm])) h.hs, h.hb1, h.hfb, by rw [hme]; exact h.m32, by rw [hjd, hcd]; exact h.jr.kb hk (fun g N f hr hm => h.bno g N f hr (by rw [h.foot]; simp at hm; simp [hm]))⟩
theorem FT.own {base fb tb : Nat} {F F' : FS} {T : TS} {S : List Nat} {sv mv : Value} {V : TV} {w w' : World} (h : FT base fb tb F T S sv mv V w) (hst : F'.st = F.st) (hme : F'.mem = F.mem) (hjd : F'.jd = F.jd) (hcd : F'.code = F.code) (htr : F'.trail = F.trail) (hg : F'.gas ≤ 100000) (hr : w'.rowIs fb 137 27 (F'.cell sv mv)) (hk : Kb [fb] w w') : FT base fb tb F' T S sv mv V w' := by
 have hfb : fb ∈ S := by rw [h.fr.foot]; simp
 refine ⟨h.fr.own' hst hme hjd hcd hg hr hk, h.tr.kb hk (fun k hk => ?_) (fun e => h.fr.no0 (by simp at e; rw [e]; exact hfb)), htr.trans h.ptr, h.dis⟩
 obtain rfl : k = fb := by simpa using hk
 exact h.dis _ hfb
def put4o (x : World) (b o n : Nat) : World := (((x.setCell ⟨b, o, none⟩ (.int .u64 (limb n 0))).setCell ⟨b, o + 1, none⟩ (.int .u64 (limb n 1))).setCell ⟨b, o + 2, none⟩ (.int .u64 (limb n 2))).setCell ⟨b, o + 3, none⟩ (.int .u64 (limb n 3))
theorem put4o_kb (x : World) (b o n : Nat) : Kb [b] x (put4o x b o n) := ((((Kb.refl [b] x).setCell (Or.inl (by simp)) _).setCell (Or.inl (by simp)) _).setCell (Or.inl (by simp)) _).setCell (Or.inl (by simp)) _
theorem put4o_row {x : World} {b T N o n : Nat} {f : Nat → Value} (h : x.rowIs b T N f) : (put4o x b o n).rowIs b T N (fun i => if i = o + 3 then .int .u64 (limb n 3) else if i = o + 2 then .int .u64 (limb n 2) else if i = o + 1 then .int .u64 (limb n 1) else if i = o then .int .u64 (limb n 0) else f i) :=
 (((h.set o (.int .u64 (limb n 0))).set (o + 1) (.int .u64 (limb n 1))).set (o + 2) (.int .u64 (limb n 2))).set (o + 3) (.int .u64 (limb n 3))
section
variable {s : Act} {x : World} {pos : String} {af : Array Edge} {g : Option (Nat × Bool)} {K : Act → World → Prop} {Q : Exit → Act → World → Prop}
theorem st_store4 {t1 t2 b n T N : Nat} {f : Nat → Value} {ty : TypeId} (o : Nat) (h1 : s.tmps.getD t1 undef = .pointer (some ⟨b, o, none⟩)) (h2 : s.tmps.getD t2 undef = wv n) (hr : x.rowIs b T N f) (ho : o + 3 < N) (hK : K (s.put none undef) (put4o x b o n)) :
  Oper.wp Tryz.prog ⟨none, .store 24 (.tmp t1) (.tmp t2), ty, pos, af, g⟩ s x K Q := by
 have e1 : s.eval (.tmp t1) = .pointer (some ⟨b, o, none⟩) := h1
 have e2 : s.eval (.tmp t2) = wv n := h2
 have k0 := hr.cell (i := o) (by omega)
 have k1 := hr.cell (i := o + 1) (by omega)
 have k2 := hr.cell (i := o + 2) (by omega)
 have k3 := hr.cell (i := o + 3) (by omega)
 have f0 := hr.frozen o
 have f1 := hr.frozen (o + 1)
 have f2 := hr.frozen (o + 2)
 have f3 := hr.frozen (o + 3)
 unfold put4o at hK
 clear hr
 go_simp
 exact hK
theorem st_storeS {t1 t2 b o : Nat} {v : ByteArray} {u : Value} {ty : TypeId} (h1 : s.tmps.getD t1 undef = .pointer (some ⟨b, o, none⟩)) (h2 : s.tmps.getD t2 undef = .string v) (hc : x.cell? ⟨b, o, none⟩ = some u) (hf : x.frozen? ⟨b, o, none⟩ = false) (hK : K (s.put none undef) (x.setCell ⟨b, o, none⟩ (.string v))) :
  Oper.wp Tryz.prog ⟨none, .store 9 (.tmp t1) (.tmp t2), ty, pos, af, g⟩ s x K Q := by
 have e1 : s.eval (.tmp t1) = .pointer (some ⟨b, o, none⟩) := h1
 have e2 : s.eval (.tmp t2) = .string v := h2
 go_simp
 exact hK
theorem st_storeI {t1 t2 b o : Nat} {v : Int} {u : Value} {ty : TypeId} (h1 : s.tmps.getD t1 undef = .pointer (some ⟨b, o, none⟩)) (h2 : s.tmps.getD t2 undef = .int .i64 v) (hc : x.cell? ⟨b, o, none⟩ = some u) (hf : x.frozen? ⟨b, o, none⟩ = false) (hK : K (s.put none undef) (x.setCell ⟨b, o, none⟩ (.int .i64 v))) :
  Oper.wp Tryz.prog ⟨none, .store 3 (.tmp t1) (.tmp t2), ty, pos, af, g⟩ s x K Q := by
 have e1 : s.eval (.tmp t1) = .pointer (some ⟨b, o, none⟩) := h1
 have e2 : s.eval (.tmp t2) = .int .i64 v := h2
 go_simp
 exact hK
end
theorem cell_self (F : FS) (sv mv : Value) (n : Nat) : (fun i => if i = 3 + 3 then .int .u64 (limb n 3) else if i = 3 + 2 then .int .u64 (limb n 2) else if i = 3 + 1 then .int .u64 (limb n 1) else if i = 3 then .int .u64 (limb n 0) else F.cell sv mv i) = ({ F with self := n } : FS).cell sv mv := by
 funext i
 by_cases h3 : i = 3 + 3
 ·subst h3; rfl
 by_cases h2 : i = 3 + 2
 ·subst h2; rfl
 by_cases h1 : i = 3 + 1
 ·subst h1; rfl
 by_cases h0 : i = 3
 ·subst h0; rfl
 rw [if_neg h3, if_neg h2, if_neg h1, if_neg h0]
 have h0' : ¬ i = 3 + 0 := h0
 simp only [FS.cell, if_neg h3, if_neg h2, if_neg h1, if_neg h0']
theorem cell_caller (F : FS) (sv mv : Value) (n : Nat) : (fun i => if i = 7 + 3 then .int .u64 (limb n 3) else if i = 7 + 2 then .int .u64 (limb n 2) else if i = 7 + 1 then .int .u64 (limb n 1) else if i = 7 then .int .u64 (limb n 0) else F.cell sv mv i) = ({ F with caller := n } : FS).cell sv mv := by
 funext i
 by_cases h3 : i = 7 + 3
 ·subst h3; rfl
 by_cases h2 : i = 7 + 2
 ·subst h2; rfl
 by_cases h1 : i = 7 + 1
 ·subst h1; rfl
 by_cases h0 : i = 7
 ·subst h0; rfl
 rw [if_neg h3, if_neg h2, if_neg h1, if_neg h0]
 have h0' : ¬ i = 7 + 0 := h0
 simp only [FS.cell, if_neg h3, if_neg h2, if_neg h1, if_neg h0']
theorem cell_value (F : FS) (sv mv : Value) (n : Nat) : (fun i => if i = 11 + 3 then .int .u64 (limb n 3) else if i = 11 + 2 then .int .u64 (limb n 2) else if i = 11 + 1 then .int .u64 (limb n 1) else if i = 11 then .int .u64 (limb n 0) else F.cell sv mv i) = ({ F with value := n } : FS).cell sv mv := by
 funext i
 by_cases h3 : i = 11 + 3
 ·subst h3; rfl
 by_cases h2 : i = 11 + 2
 ·subst h2; rfl
 by_cases h1 : i = 11 + 1
 ·subst h1; rfl
 by_cases h0 : i = 11
 ·subst h0; rfl
 rw [if_neg h3, if_neg h2, if_neg h1, if_neg h0]
 have h0' : ¬ i = 11 + 0 := h0
 simp only [FS.cell, if_neg h3, if_neg h2, if_neg h1, if_neg h0']
theorem cell_data (F : FS) (sv mv : Value) (v : ByteArray) : (fun i => if i = 15 then .string v else F.cell sv mv i) = ({ F with data := v } : FS).cell sv mv := by
 funext i
 by_cases h : i = 15
 ·subst h; rfl
 ·simp only [FS.cell, if_neg h]
theorem cell_depth (F : FS) (sv mv : Value) (n : Nat) : (fun i => if i = 18 then .int .i64 (n : Int) else F.cell sv mv i) = ({ F with depth := n } : FS).cell sv mv := by
 funext i
 by_cases h : i = 18
 ·subst h; rfl
 ·simp only [FS.cell, if_neg h]
theorem set_row {w : World} {fb T N : Nat} {f f' : Nat → Value} {o : Nat} {v : Value} (h : w.rowIs fb T N f) (e : (fun i => if i = o then v else f i) = f') : (w.setCell ⟨fb, o, none⟩ v).rowIs fb T N f' := by
 rw [← e]
 exact h.set o v
theorem set4_row {w : World} {fb T N : Nat} {f f' : Nat → Value} {o n : Nat} (h : w.rowIs fb T N f) (e : (fun i => if i = o + 3 then .int .u64 (limb n 3) else if i = o + 2 then .int .u64 (limb n 2) else if i = o + 1 then .int .u64 (limb n 1) else if i = o then .int .u64 (limb n 0) else f i) = f') : (put4o w fb o n).rowIs fb T N f' := by
 rw [← e]
 exact put4o_row h
def PhD (base fb tb : Nat) (G : Nat → FS) (T : TS) (S : List Nat) (sv mv : Value) (V : TV) (w : World) (p : Nat) (x : World) : Prop := FT base fb tb (G p) T S sv mv V x ∧ Kb [fb] w x
section
variable {base fb tb mb fr tt val : Nat} {F : FS} {T : TS} {S : List Nat} {sv mv : Value} {V : TV} {s : Act} {x : World} {K : Act → World → Prop} {Q : Exit → Act → World → Prop} {ty1 : TypeId} {po1 : String} {af1 : Array Edge} {gd1 : Option (Nat × Bool)}
theorem deliver_r3_o0 (e5 : s.tmps.getD 5 undef = .pointer (some ⟨fb, 0, none⟩))  (hK : K (s.put (some 20) (.pointer (some ⟨fb, 0, none⟩))) x) :
  Oper.wp Tryz.prog ⟨some 20, .move (.tmp 5), ty1, po1, af1, gd1⟩ s x K Q := by
 have f5 : s.eval (.tmp 5) = _ := e5
 go_simp
 exact hK
theorem deliver_r3_o1 (e5 : s.tmps.getD 5 undef = .pointer (some ⟨fb, 0, none⟩))  (hK : K (s.put (some 21) (.pointer (some ⟨fb, 0, none⟩))) x) :
  Oper.wp Tryz.prog ⟨some 21, .move (.tmp 5), ty1, po1, af1, gd1⟩ s x K Q := by
 have f5 : s.eval (.tmp 5) = _ := e5
 go_simp
 exact hK
theorem deliver_r3_o2 (e5 : s.tmps.getD 5 undef = .pointer (some ⟨fb, 0, none⟩))  (hK : K (s.put (some 22) (.pointer (some ⟨fb, 0, none⟩))) x) :
  Oper.wp Tryz.prog ⟨some 22, .move (.tmp 5), ty1, po1, af1, gd1⟩ s x K Q := by
 have f5 : s.eval (.tmp 5) = _ := e5
 go_simp
 exact hK
theorem deliver_r3_o3 (e3 : s.tmps.getD 3 undef = .pointer (some ⟨mb, 0, none⟩))  (hK : K (s.put (some 23) (.pointer (some ⟨mb, 4, none⟩))) x) :
  Oper.wp Tryz.prog ⟨some 23, .fieldAddr 43 (.tmp 3) 1, ty1, po1, af1, gd1⟩ s x K Q := by
 have f3 : s.eval (.tmp 3) = _ := e3
 go_simp
 exact hK
theorem deliver_r3_o4 (e23 : s.tmps.getD 23 undef = .pointer (some ⟨mb, 4, none⟩)) (y0 : x.cell? ⟨mb, 4, none⟩ = some (.int .u64 (limb tt 0))) (y1 : x.cell? ⟨mb, 5, none⟩ = some (.int .u64 (limb tt 1))) (y2 : x.cell? ⟨mb, 6, none⟩ = some (.int .u64 (limb tt 2))) (y3 : x.cell? ⟨mb, 7, none⟩ = some (.int .u64 (limb tt 3))) (hK : K (s.put (some 24) (.agg #[.int .u64 (limb tt 0), .int .u64 (limb tt 1), .int .u64 (limb tt 2), .int .u64 (limb tt 3)])) x) :
  Oper.wp Tryz.prog ⟨some 24, .load 24 (.tmp 23), ty1, po1, af1, gd1⟩ s x K Q := by
 have f23 : s.eval (.tmp 23) = _ := e23
 go_simp
 exact hK
theorem deliver_r3_o5 (e3 : s.tmps.getD 3 undef = .pointer (some ⟨mb, 0, none⟩))  (hK : K (s.put (some 25) (.pointer (some ⟨mb, 0, none⟩))) x) :
  Oper.wp Tryz.prog ⟨some 25, .fieldAddr 43 (.tmp 3) 0, ty1, po1, af1, gd1⟩ s x K Q := by
 have f3 : s.eval (.tmp 3) = _ := e3
 go_simp
 exact hK
theorem deliver_r3_o6 (e25 : s.tmps.getD 25 undef = .pointer (some ⟨mb, 0, none⟩)) (y0 : x.cell? ⟨mb, 0, none⟩ = some (.int .u64 (limb fr 0))) (y1 : x.cell? ⟨mb, 1, none⟩ = some (.int .u64 (limb fr 1))) (y2 : x.cell? ⟨mb, 2, none⟩ = some (.int .u64 (limb fr 2))) (y3 : x.cell? ⟨mb, 3, none⟩ = some (.int .u64 (limb fr 3))) (hK : K (s.put (some 26) (.agg #[.int .u64 (limb fr 0), .int .u64 (limb fr 1), .int .u64 (limb fr 2), .int .u64 (limb fr 3)])) x) :
  Oper.wp Tryz.prog ⟨some 26, .load 24 (.tmp 25), ty1, po1, af1, gd1⟩ s x K Q := by
 have f25 : s.eval (.tmp 25) = _ := e25
 go_simp
 exact hK
theorem deliver_r3_o7 (e3 : s.tmps.getD 3 undef = .pointer (some ⟨mb, 0, none⟩))  (hK : K (s.put (some 27) (.pointer (some ⟨mb, 8, none⟩))) x) :
  Oper.wp Tryz.prog ⟨some 27, .fieldAddr 43 (.tmp 3) 2, ty1, po1, af1, gd1⟩ s x K Q := by
 have f3 : s.eval (.tmp 3) = _ := e3
 go_simp
 exact hK
theorem deliver_r3_o8 (e27 : s.tmps.getD 27 undef = .pointer (some ⟨mb, 8, none⟩)) (y0 : x.cell? ⟨mb, 8, none⟩ = some (.int .u64 (limb val 0))) (y1 : x.cell? ⟨mb, 9, none⟩ = some (.int .u64 (limb val 1))) (y2 : x.cell? ⟨mb, 10, none⟩ = some (.int .u64 (limb val 2))) (y3 : x.cell? ⟨mb, 11, none⟩ = some (.int .u64 (limb val 3))) (hK : K (s.put (some 28) (.agg #[.int .u64 (limb val 0), .int .u64 (limb val 1), .int .u64 (limb val 2), .int .u64 (limb val 3)])) x) :
  Oper.wp Tryz.prog ⟨some 28, .load 24 (.tmp 27), ty1, po1, af1, gd1⟩ s x K Q := by
 have f27 : s.eval (.tmp 27) = _ := e27
 go_simp
 exact hK
theorem deliver_r3_o9 (e20 : s.tmps.getD 20 undef = .pointer (some ⟨fb, 0, none⟩))  (hK : K (s.put (some 29) (.pointer (some ⟨fb, 0, none⟩))) x) :
  Oper.wp Tryz.prog ⟨some 29, .nilCheck (.tmp 20), ty1, po1, af1, gd1⟩ s x K Q := by
 have f20 : s.eval (.tmp 20) = _ := e20
 go_simp
 exact hK
theorem deliver_r3_o10 (e29 : s.tmps.getD 29 undef = .pointer (some ⟨fb, 0, none⟩))  (hK : K (s.put (some 30) (.pointer (some ⟨fb, 3, none⟩))) x) :
  Oper.wp Tryz.prog ⟨some 30, .fieldAddr 137 (.tmp 29) 3, ty1, po1, af1, gd1⟩ s x K Q := by
 have f29 : s.eval (.tmp 29) = _ := e29
 go_simp
 exact hK
theorem deliver_r3_o12 (e21 : s.tmps.getD 21 undef = .pointer (some ⟨fb, 0, none⟩))  (hK : K (s.put (some 31) (.pointer (some ⟨fb, 0, none⟩))) x) :
  Oper.wp Tryz.prog ⟨some 31, .nilCheck (.tmp 21), ty1, po1, af1, gd1⟩ s x K Q := by
 have f21 : s.eval (.tmp 21) = _ := e21
 go_simp
 exact hK
theorem deliver_r3_o13 (e31 : s.tmps.getD 31 undef = .pointer (some ⟨fb, 0, none⟩))  (hK : K (s.put (some 32) (.pointer (some ⟨fb, 7, none⟩))) x) :
  Oper.wp Tryz.prog ⟨some 32, .fieldAddr 137 (.tmp 31) 4, ty1, po1, af1, gd1⟩ s x K Q := by
 have f31 : s.eval (.tmp 31) = _ := e31
 go_simp
 exact hK
theorem deliver_r3_o15 (e22 : s.tmps.getD 22 undef = .pointer (some ⟨fb, 0, none⟩))  (hK : K (s.put (some 33) (.pointer (some ⟨fb, 0, none⟩))) x) :
  Oper.wp Tryz.prog ⟨some 33, .nilCheck (.tmp 22), ty1, po1, af1, gd1⟩ s x K Q := by
 have f22 : s.eval (.tmp 22) = _ := e22
 go_simp
 exact hK
theorem deliver_r3_o16 (e33 : s.tmps.getD 33 undef = .pointer (some ⟨fb, 0, none⟩))  (hK : K (s.put (some 34) (.pointer (some ⟨fb, 11, none⟩))) x) :
  Oper.wp Tryz.prog ⟨some 34, .fieldAddr 137 (.tmp 33) 5, ty1, po1, af1, gd1⟩ s x K Q := by
 have f33 : s.eval (.tmp 33) = _ := e33
 go_simp
 exact hK
theorem deliver_r3 {base fb tb mb fr tt val : Nat} {F : FS} {T : TS} {S : List Nat} {sv mv : Value} {V : TV} {Q : Exit → Act → World → Prop} (a : Act) (w : World) (h : FT base fb tb F T S sv mv V w) (htt : ∀ x, Kb [fb] w x → x.cell? ⟨mb, 4, none⟩ = some (.int .u64 (limb tt 0)) ∧ x.cell? ⟨mb, 5, none⟩ = some (.int .u64 (limb tt 1)) ∧ x.cell? ⟨mb, 6, none⟩ = some (.int .u64 (limb tt 2)) ∧ x.cell? ⟨mb, 7, none⟩ = some (.int .u64 (limb tt 3))) (hfr : ∀ x, Kb [fb] w x → x.cell? ⟨mb, 0, none⟩ = some (.int .u64 (limb fr 0)) ∧ x.cell? ⟨mb, 1, none⟩ = some (.int .u64 (limb fr 1)) ∧ x.cell? ⟨mb, 2, none⟩ = some (.int .u64 (limb fr 2)) ∧ x.cell? ⟨mb, 3, none⟩ = some (.int .u64 (limb fr 3))) (hval : ∀ x, Kb [fb] w x → x.cell? ⟨mb, 8, none⟩ = some (.int .u64 (limb val 0)) ∧ x.cell? ⟨mb, 9, none⟩ = some (.int .u64 (limb val 1)) ∧ x.cell? ⟨mb, 10, none⟩ = some (.int .u64 (limb val 2)) ∧ x.cell? ⟨mb, 11, none⟩ = some (.int .u64 (limb val 3))) (h0 : PhD base fb tb (fun p => match p with | 0 => F | 1 => { F with self := tt } | 2 => { F with self := tt, caller := fr } | _ => { F with self := tt, caller := fr, value := val }) T S sv mv V w 0 w.drew) (hsz : decide (34 < a.tmps.size) = true) (c3 : a.tmps.getD 3 undef = .pointer (some ⟨mb, 0, none⟩)) (c5 : a.tmps.getD 5 undef = .pointer (some ⟨fb, 0, none⟩))
  (hok : ∀ (x : World), (PhD base fb tb (fun p => match p with | 0 => F | 1 => { F with self := tt } | 2 => { F with self := tt, caller := fr } | _ => { F with self := tt, caller := fr, value := val }) T S sv mv V w) 3 x → Q .normal (fill a [(20, .pointer (some ⟨fb, 0, none⟩)), (21, .pointer (some ⟨fb, 0, none⟩)), (22, .pointer (some ⟨fb, 0, none⟩)), (23, .pointer (some ⟨mb, 4, none⟩)), (24, .agg #[.int .u64 (limb tt 0), .int .u64 (limb tt 1), .int .u64 (limb tt 2), .int .u64 (limb tt 3)]), (25, .pointer (some ⟨mb, 0, none⟩)), (26, .agg #[.int .u64 (limb fr 0), .int .u64 (limb fr 1), .int .u64 (limb fr 2), .int .u64 (limb fr 3)]), (27, .pointer (some ⟨mb, 8, none⟩)), (28, .agg #[.int .u64 (limb val 0), .int .u64 (limb val 1), .int .u64 (limb val 2), .int .u64 (limb val 3)]), (29, .pointer (some ⟨fb, 0, none⟩)), (30, .pointer (some ⟨fb, 3, none⟩)), (31, .pointer (some ⟨fb, 0, none⟩)), (32, .pointer (some ⟨fb, 7, none⟩)), (33, .pointer (some ⟨fb, 0, none⟩)), (34, .pointer (some ⟨fb, 11, none⟩))]) x) :
  (Code.region 3 #[⟨some 20, .move (.tmp 5), 132, "trail.go:113", #[], none⟩, ⟨some 21, .move (.tmp 5), 132, "trail.go:113", #[{ on := 11, ground := Ground.gcOnly Departure.lateStores }], none⟩, ⟨some 22, .move (.tmp 5), 132, "trail.go:113", #[{ on := 14, ground := Ground.gcOnly Departure.lateStores }], none⟩, ⟨some 23, .fieldAddr 43 (.tmp 3) 1, 0, "trail.go:113", #[], none⟩, ⟨some 24, .load 24 (.tmp 23), 24, "trail.go:113", #[⟨3, .data⟩], none⟩, ⟨some 25, .fieldAddr 43 (.tmp 3) 0, 0, "trail.go:113", #[{ on := 11, ground := Ground.gcOnly Departure.lateStores }], none⟩, ⟨some 26, .load 24 (.tmp 25), 24, "trail.go:113", #[⟨5, .data⟩, { on := 11, ground := Ground.gcOnly Departure.lateStores }], none⟩, ⟨some 27, .fieldAddr 43 (.tmp 3) 2, 0, "trail.go:113", #[{ on := 14, ground := Ground.gcOnly Departure.lateStores }], none⟩, ⟨some 28, .load 24 (.tmp 27), 24, "trail.go:113", #[⟨7, .data⟩, { on := 14, ground := Ground.gcOnly Departure.lateStores }], none⟩, ⟨some 29, .nilCheck (.tmp 20), 0, "trail.go:113", #[⟨0, .data⟩, ⟨0, .phase⟩, { on := 1, ground := Ground.textOnly Departure.lateStores }, { on := 2, ground := Ground.textOnly Departure.lateStores }, ⟨3, .phase⟩, ⟨4, .phase⟩, { on := 5, ground := Ground.textOnly Departure.lateStores }, { on := 6, ground := Ground.textOnly Departure.lateStores }, { on := 7, ground := Ground.textOnly Departure.lateStores }, { on := 8, ground := Ground.textOnly Departure.lateStores }], none⟩, ⟨some 30, .fieldAddr 137 (.tmp 29) 3, 0, "trail.go:113", #[⟨9, .data⟩, ⟨0, .phase⟩, { on := 1, ground := Ground.textOnly Departure.lateStores }, { on := 2, ground := Ground.textOnly Departure.lateStores }, ⟨3, .phase⟩, ⟨4, .phase⟩, { on := 5, ground := Ground.textOnly Departure.lateStores }, { on := 6, ground := Ground.textOnly Departure.lateStores }, { on := 7, ground := Ground.textOnly Departure.lateStores }, { on := 8, ground := Ground.textOnly Departure.lateStores }], none⟩, ⟨none, .store 24 (.tmp 30) (.tmp 24), 0, "trail.go:113", #[⟨10, .data⟩, ⟨4, .data⟩, ⟨0, .phase⟩, { on := 1, ground := Ground.textOnly Departure.lateStores }, { on := 2, ground := Ground.textOnly Departure.lateStores }, ⟨3, .phase⟩, ⟨4, .phase⟩, { on := 5, ground := Ground.textOnly Departure.lateStores }, { on := 6, ground := Ground.textOnly Departure.lateStores }, { on := 7, ground := Ground.textOnly Departure.lateStores }, { on := 8, ground := Ground.textOnly Departure.lateStores }], none⟩, ⟨some 31, .nilCheck (.tmp 21), 0, "trail.go:113", #[⟨1, .data⟩, ⟨0, .phase⟩, ⟨1, .phase⟩, { on := 2, ground := Ground.textOnly Departure.lateStores }, ⟨3, .phase⟩, ⟨4, .phase⟩, ⟨5, .phase⟩, ⟨6, .phase⟩, { on := 7, ground := Ground.textOnly Departure.lateStores }, { on := 8, ground := Ground.textOnly Departure.lateStores }, ⟨9, .phase⟩, ⟨10, .phase⟩, ⟨11, .phase⟩], none⟩, ⟨some 32, .fieldAddr 137 (.tmp 31) 4, 0, "trail.go:113", #[⟨12, .data⟩, ⟨0, .phase⟩, ⟨1, .phase⟩, { on := 2, ground := Ground.textOnly Departure.lateStores }, ⟨3, .phase⟩, ⟨4, .phase⟩, ⟨5, .phase⟩, ⟨6, .phase⟩, { on := 7, ground := Ground.textOnly Departure.lateStores }, { on := 8, ground := Ground.textOnly Departure.lateStores }, ⟨9, .phase⟩, ⟨10, .phase⟩, ⟨11, .phase⟩], none⟩, ⟨none, .store 24 (.tmp 32) (.tmp 26), 0, "trail.go:113", #[⟨13, .data⟩, ⟨6, .data⟩, ⟨11, .chain⟩, ⟨0, .phase⟩, ⟨1, .phase⟩, { on := 2, ground := Ground.textOnly Departure.lateStores }, ⟨3, .phase⟩, ⟨4, .phase⟩, ⟨5, .phase⟩, ⟨6, .phase⟩, { on := 7, ground := Ground.textOnly Departure.lateStores }, { on := 8, ground := Ground.textOnly Departure.lateStores }, ⟨9, .phase⟩, ⟨10, .phase⟩, ⟨11, .phase⟩], none⟩, ⟨some 33, .nilCheck (.tmp 22), 0, "trail.go:113", #[⟨2, .data⟩, ⟨0, .phase⟩, ⟨1, .phase⟩, ⟨2, .phase⟩, ⟨3, .phase⟩, ⟨4, .phase⟩, ⟨5, .phase⟩, ⟨6, .phase⟩, ⟨7, .phase⟩, ⟨8, .phase⟩, ⟨9, .phase⟩, ⟨10, .phase⟩, ⟨11, .phase⟩, ⟨12, .phase⟩, ⟨13, .phase⟩, ⟨14, .phase⟩], none⟩, ⟨some 34, .fieldAddr 137 (.tmp 33) 5, 0, "trail.go:113", #[⟨15, .data⟩, ⟨0, .phase⟩, ⟨1, .phase⟩, ⟨2, .phase⟩, ⟨3, .phase⟩, ⟨4, .phase⟩, ⟨5, .phase⟩, ⟨6, .phase⟩, ⟨7, .phase⟩, ⟨8, .phase⟩, ⟨9, .phase⟩, ⟨10, .phase⟩, ⟨11, .phase⟩, ⟨12, .phase⟩, ⟨13, .phase⟩, ⟨14, .phase⟩], none⟩, ⟨none, .store 24 (.tmp 34) (.tmp 28), 0, "trail.go:113", #[⟨16, .data⟩, ⟨8, .data⟩, ⟨14, .chain⟩, ⟨0, .phase⟩, ⟨1, .phase⟩, ⟨2, .phase⟩, ⟨3, .phase⟩, ⟨4, .phase⟩, ⟨5, .phase⟩, ⟨6, .phase⟩, ⟨7, .phase⟩, ⟨8, .phase⟩, ⟨9, .phase⟩, ⟨10, .phase⟩, ⟨11, .phase⟩, ⟨12, .phase⟩, ⟨13, .phase⟩, ⟨14, .phase⟩], none⟩] true).wp Tryz.prog Q a w := by
 have hsz := of_decide_eq_true hsz
 refine wp_region_ph (by kernel_rfl) (by kernel_rfl) (PhD base fb tb (fun p => match p with | 0 => F | 1 => { F with self := tt } | 2 => { F with self := tt, caller := fr } | _ => { F with self := tt, caller := fr, value := val }) T S sv mv V w) (fun _ _ _ => True) [(some 20, Cp (.pointer (some ⟨fb, 0, none⟩))), (some 21, Cp (.pointer (some ⟨fb, 0, none⟩))), (some 22, Cp (.pointer (some ⟨fb, 0, none⟩))), (some 23, Cp (.pointer (some ⟨mb, 4, none⟩))), (some 24, Cp (.agg #[.int .u64 (limb tt 0), .int .u64 (limb tt 1), .int .u64 (limb tt 2), .int .u64 (limb tt 3)])), (some 25, Cp (.pointer (some ⟨mb, 0, none⟩))), (some 26, Cp (.agg #[.int .u64 (limb fr 0), .int .u64 (limb fr 1), .int .u64 (limb fr 2), .int .u64 (limb fr 3)])), (some 27, Cp (.pointer (some ⟨mb, 8, none⟩))), (some 28, Cp (.agg #[.int .u64 (limb val 0), .int .u64 (limb val 1), .int .u64 (limb val 2), .int .u64 (limb val 3)])), (some 29, Cp (.pointer (some ⟨fb, 0, none⟩))), (some 30, Cp (.pointer (some ⟨fb, 3, none⟩))), (none, fun _ _ _ => True), (some 31, Cp (.pointer (some ⟨fb, 0, none⟩))), (some 32, Cp (.pointer (some ⟨fb, 7, none⟩))), (none, fun _ _ _ => True), (some 33, Cp (.pointer (some ⟨fb, 0, none⟩))), (some 34, Cp (.pointer (some ⟨fb, 11, none⟩))), (none, fun _ _ _ => True)] [11, 14, 17] rfl (by rfl) ?_ ?_ [(3, .pointer (some ⟨mb, 0, none⟩)), (5, .pointer (some ⟨fb, 0, none⟩))] ?_ (by rfl) (by kernel_rfl) (by rfl) (by rfl) ?_ ?_ ?_ ?_
 ·refine List.all_eq_true.2 fun d hd => decide_eq_true ?_
  have hd2 : d ∈ ([20, 21, 22, 23, 24, 25, 26, 27, 28, 29, 30, 31, 32, 33, 34] : List Nat) := hd
  simp at hd2
  omega
 ·exact h0
 ·intro p hp
  simp only [List.mem_cons, List.not_mem_nil, or_false] at hp
  rcases hp with rfl | rfl
  ·exact c3
  ·exact c5
 ·intro j d T hj p v x x' hne hpl hph hrel ht
  have hjl : j < 18 := (List.getElem?_eq_some_iff.1 hj).1
  rcases ltq18 hjl with rfl | rfl | rfl | rfl | rfl | rfl | rfl | rfl | rfl | rfl | rfl | rfl | rfl | rfl | rfl | rfl | rfl | rfl
  ·obtain ⟨rfl, rfl⟩ := pk hj
   exact ht
  ·obtain ⟨rfl, rfl⟩ := pk hj
   exact ht
  ·obtain ⟨rfl, rfl⟩ := pk hj
   exact ht
  ·obtain ⟨rfl, rfl⟩ := pk hj
   exact ht
  ·obtain ⟨rfl, rfl⟩ := pk hj
   exact ht
  ·obtain ⟨rfl, rfl⟩ := pk hj
   exact ht
  ·obtain ⟨rfl, rfl⟩ := pk hj
   exact ht
  ·obtain ⟨rfl, rfl⟩ := pk hj
   exact ht
  ·obtain ⟨rfl, rfl⟩ := pk hj
   exact ht
  ·obtain ⟨rfl, rfl⟩ := pk hj
   exact ht
  ·obtain ⟨rfl, rfl⟩ := pk hj
   exact ht
  ·obtain ⟨rfl, rfl⟩ := pk hj
   exact ht
  ·obtain ⟨rfl, rfl⟩ := pk hj
   exact ht
  ·obtain ⟨rfl, rfl⟩ := pk hj
   exact ht
  ·obtain ⟨rfl, rfl⟩ := pk hj
   exact ht
  ·obtain ⟨rfl, rfl⟩ := pk hj
   exact ht
  ·obtain ⟨rfl, rfl⟩ := pk hj
   exact ht
  ·obtain ⟨rfl, rfl⟩ := pk hj
   exact ht
 ·intro i o d T ho ht hic k s x hk hlo hhi hph hdf hb hdep
  have hi : i < 18 := (Array.getElem?_eq_some_iff.1 ho).1
  rcases ltq18 hi with rfl | rfl | rfl | rfl | rfl | rfl | rfl | rfl | rfl | rfl | rfl | rfl | rfl | rfl | rfl | rfl | rfl | rfl
  ·obtain rfl := sj ho
   obtain ⟨rfl, rfl⟩ := pk ht
   refine ⟨want_none rfl, fun K hK => ?_⟩
   exact deliver_r3_o0 (hb (5, .pointer (some ⟨fb, 0, none⟩)) (List.Mem.tail _ (List.Mem.head _)))  (hK _ nn1 rfl)
  ·obtain rfl := sj ho
   obtain ⟨rfl, rfl⟩ := pk ht
   refine ⟨want_none rfl, fun K hK => ?_⟩
   exact deliver_r3_o1 (hb (5, .pointer (some ⟨fb, 0, none⟩)) (List.Mem.tail _ (List.Mem.head _)))  (hK _ nn1 rfl)
  ·obtain rfl := sj ho
   obtain ⟨rfl, rfl⟩ := pk ht
   refine ⟨want_none rfl, fun K hK => ?_⟩
   exact deliver_r3_o2 (hb (5, .pointer (some ⟨fb, 0, none⟩)) (List.Mem.tail _ (List.Mem.head _)))  (hK _ nn1 rfl)
  ·obtain rfl := sj ho
   obtain ⟨rfl, rfl⟩ := pk ht
   refine ⟨want_none rfl, fun K hK => ?_⟩
   exact deliver_r3_o3 (hb (3, .pointer (some ⟨mb, 0, none⟩)) (List.Mem.head _))  (hK _ nn1 rfl)
  ·obtain rfl := sj ho
   obtain ⟨rfl, rfl⟩ := pk ht
   refine ⟨want_none rfl, fun K hK => ?_⟩
   obtain ⟨y0, y1, y2, y3⟩ := htt x hph.2
   exact deliver_r3_o4 (hdep ⟨3, .data⟩ (by simp) rfl _ _ rfl) y0 y1 y2 y3 (hK _ nn1 rfl)
  ·obtain rfl := sj ho
   obtain ⟨rfl, rfl⟩ := pk ht
   refine ⟨want_none rfl, fun K hK => ?_⟩
   exact deliver_r3_o5 (hb (3, .pointer (some ⟨mb, 0, none⟩)) (List.Mem.head _))  (hK _ nn1 rfl)
  ·obtain rfl := sj ho
   obtain ⟨rfl, rfl⟩ := pk ht
   refine ⟨want_none rfl, fun K hK => ?_⟩
   obtain ⟨y0, y1, y2, y3⟩ := hfr x hph.2
   exact deliver_r3_o6 (hdep ⟨5, .data⟩ (by simp) rfl _ _ rfl) y0 y1 y2 y3 (hK _ nn1 rfl)
  ·obtain rfl := sj ho
   obtain ⟨rfl, rfl⟩ := pk ht
   refine ⟨want_none rfl, fun K hK => ?_⟩
   exact deliver_r3_o7 (hb (3, .pointer (some ⟨mb, 0, none⟩)) (List.Mem.head _))  (hK _ nn1 rfl)
  ·obtain rfl := sj ho
   obtain ⟨rfl, rfl⟩ := pk ht
   refine ⟨want_none rfl, fun K hK => ?_⟩
   obtain ⟨y0, y1, y2, y3⟩ := hval x hph.2
   exact deliver_r3_o8 (hdep ⟨7, .data⟩ (by simp) rfl _ _ rfl) y0 y1 y2 y3 (hK _ nn1 rfl)
  ·obtain rfl := sj ho
   obtain ⟨rfl, rfl⟩ := pk ht
   refine ⟨want_none rfl, fun K hK => ?_⟩
   exact deliver_r3_o9 (hdep ⟨0, .data⟩ (by simp) rfl _ _ rfl)  (hK _ nn1 rfl)
  ·obtain rfl := sj ho
   obtain ⟨rfl, rfl⟩ := pk ht
   refine ⟨want_none rfl, fun K hK => ?_⟩
   exact deliver_r3_o10 (hdep ⟨9, .data⟩ (by simp) rfl _ _ rfl)  (hK _ nn1 rfl)
  ·exact absurd (by simp) hic
  ·obtain rfl := sj ho
   obtain ⟨rfl, rfl⟩ := pk ht
   refine ⟨want_none rfl, fun K hK => ?_⟩
   exact deliver_r3_o12 (hdep ⟨1, .data⟩ (by simp) rfl _ _ rfl)  (hK _ nn1 rfl)
  ·obtain rfl := sj ho
   obtain ⟨rfl, rfl⟩ := pk ht
   refine ⟨want_none rfl, fun K hK => ?_⟩
   exact deliver_r3_o13 (hdep ⟨12, .data⟩ (by simp) rfl _ _ rfl)  (hK _ nn1 rfl)
  ·exact absurd (by simp) hic
  ·obtain rfl := sj ho
   obtain ⟨rfl, rfl⟩ := pk ht
   refine ⟨want_none rfl, fun K hK => ?_⟩
   exact deliver_r3_o15 (hdep ⟨2, .data⟩ (by simp) rfl _ _ rfl)  (hK _ nn1 rfl)
  ·obtain rfl := sj ho
   obtain ⟨rfl, rfl⟩ := pk ht
   refine ⟨want_none rfl, fun K hK => ?_⟩
   exact deliver_r3_o16 (hdep ⟨15, .data⟩ (by simp) rfl _ _ rfl)  (hK _ nn1 rfl)
  ·exact absurd (by simp) hic
 ·intro p i o d T hp ho ht s x hph hdf hb hdep
  have hpl : p < 3 := (List.getElem?_eq_some_iff.1 hp).1
  rcases ltq3 hpl with rfl | rfl | rfl
  ·obtain rfl := sj hp
   obtain rfl := sj ho
   obtain ⟨rfl, rfl⟩ := pk ht
   refine ⟨want_none rfl, fun K hK => ?_⟩
   have hr := hph.1.fr.row
   refine st_store4 3 (hdep ⟨10, .data⟩ (by simp) rfl _ _ rfl) (hdep ⟨4, .data⟩ (by simp) rfl _ _ rfl) hr (by decide) (hK undef _ ⟨hph.1.own rfl rfl rfl rfl rfl hph.1.fr.gal ?_ (put4o_kb _ _ _ _), hph.2.trans (put4o_kb _ _ _ _) (fun i hi => Or.inl hi)⟩ trivial (fun _ => rfl) trivial)
   exact set4_row hr (cell_self _ sv mv _)
  ·obtain rfl := sj hp
   obtain rfl := sj ho
   obtain ⟨rfl, rfl⟩ := pk ht
   refine ⟨want_none rfl, fun K hK => ?_⟩
   have hr := hph.1.fr.row
   refine st_store4 7 (hdep ⟨13, .data⟩ (by simp) rfl _ _ rfl) (hdep ⟨6, .data⟩ (by simp) rfl _ _ rfl) hr (by decide) (hK undef _ ⟨hph.1.own rfl rfl rfl rfl rfl hph.1.fr.gal ?_ (put4o_kb _ _ _ _), hph.2.trans (put4o_kb _ _ _ _) (fun i hi => Or.inl hi)⟩ trivial (fun _ => rfl) trivial)
   exact set4_row hr (cell_caller _ sv mv _)
  ·obtain rfl := sj hp
   obtain rfl := sj ho
   obtain ⟨rfl, rfl⟩ := pk ht
   refine ⟨want_none rfl, fun K hK => ?_⟩
   have hr := hph.1.fr.row
   refine st_store4 11 (hdep ⟨16, .data⟩ (by simp) rfl _ _ rfl) (hdep ⟨8, .data⟩ (by simp) rfl _ _ rfl) hr (by decide) (hK undef _ ⟨hph.1.own rfl rfl rfl rfl rfl hph.1.fr.gal ?_ (put4o_kb _ _ _ _), hph.2.trans (put4o_kb _ _ _ _) (fun i hi => Or.inl hi)⟩ trivial (fun _ => rfl) trivial)
   exact set4_row hr (cell_value _ sv mv _)
 ·intro vs x hph hl hT
  obtain ⟨v0, v1, v2, v3, v4, v5, v6, v7, v8, v9, v10, v11, v12, v13, v14, v15, v16, v17, rfl⟩ := lenq18 hl
  obtain rfl : v0 = .pointer (some ⟨fb, 0, none⟩) := hT 0 _ _ rfl
  obtain rfl : v1 = .pointer (some ⟨fb, 0, none⟩) := hT 1 _ _ rfl
  obtain rfl : v2 = .pointer (some ⟨fb, 0, none⟩) := hT 2 _ _ rfl
  obtain rfl : v3 = .pointer (some ⟨mb, 4, none⟩) := hT 3 _ _ rfl
  obtain rfl : v4 = .agg #[.int .u64 (limb tt 0), .int .u64 (limb tt 1), .int .u64 (limb tt 2), .int .u64 (limb tt 3)] := hT 4 _ _ rfl
  obtain rfl : v5 = .pointer (some ⟨mb, 0, none⟩) := hT 5 _ _ rfl
  obtain rfl : v6 = .agg #[.int .u64 (limb fr 0), .int .u64 (limb fr 1), .int .u64 (limb fr 2), .int .u64 (limb fr 3)] := hT 6 _ _ rfl
  obtain rfl : v7 = .pointer (some ⟨mb, 8, none⟩) := hT 7 _ _ rfl
  obtain rfl : v8 = .agg #[.int .u64 (limb val 0), .int .u64 (limb val 1), .int .u64 (limb val 2), .int .u64 (limb val 3)] := hT 8 _ _ rfl
  obtain rfl : v9 = .pointer (some ⟨fb, 0, none⟩) := hT 9 _ _ rfl
  obtain rfl : v10 = .pointer (some ⟨fb, 3, none⟩) := hT 10 _ _ rfl
  obtain rfl : v12 = .pointer (some ⟨fb, 0, none⟩) := hT 12 _ _ rfl
  obtain rfl : v13 = .pointer (some ⟨fb, 7, none⟩) := hT 13 _ _ rfl
  obtain rfl : v15 = .pointer (some ⟨fb, 0, none⟩) := hT 15 _ _ rfl
  obtain rfl : v16 = .pointer (some ⟨fb, 11, none⟩) := hT 16 _ _ rfl
  exact hok x hph
end
section
variable {base fb tb mb gs : Nat} {F : FS} {data : ByteArray} {T : TS} {S : List Nat} {sv mv : Value} {V : TV} {s : Act} {x : World} {K : Act → World → Prop} {Q : Exit → Act → World → Prop} {ty1 : TypeId} {po1 : String} {af1 : Array Edge} {gd1 : Option (Nat × Bool)}
theorem deliver_r4_o0 (e5 : s.tmps.getD 5 undef = .pointer (some ⟨fb, 0, none⟩))  (hK : K (s.put (some 35) (.pointer (some ⟨fb, 0, none⟩))) x) :
  Oper.wp Tryz.prog ⟨some 35, .move (.tmp 5), ty1, po1, af1, gd1⟩ s x K Q := by
 have f5 : s.eval (.tmp 5) = _ := e5
 go_simp
 exact hK
theorem deliver_r4_o1 (e5 : s.tmps.getD 5 undef = .pointer (some ⟨fb, 0, none⟩))  (hK : K (s.put (some 36) (.pointer (some ⟨fb, 0, none⟩))) x) :
  Oper.wp Tryz.prog ⟨some 36, .move (.tmp 5), ty1, po1, af1, gd1⟩ s x K Q := by
 have f5 : s.eval (.tmp 5) = _ := e5
 go_simp
 exact hK
theorem deliver_r4_o2 (e3 : s.tmps.getD 3 undef = .pointer (some ⟨mb, 0, none⟩))  (hK : K (s.put (some 37) (.pointer (some ⟨mb, 12, none⟩))) x) :
  Oper.wp Tryz.prog ⟨some 37, .fieldAddr 43 (.tmp 3) 3, ty1, po1, af1, gd1⟩ s x K Q := by
 have f3 : s.eval (.tmp 3) = _ := e3
 go_simp
 exact hK
theorem deliver_r4_o3 (e37 : s.tmps.getD 37 undef = .pointer (some ⟨mb, 12, none⟩)) (k0 : x.cell? ⟨mb, 12, none⟩ = some (.string data)) (hK : K (s.put (some 38) (.string data)) x) :
  Oper.wp Tryz.prog ⟨some 38, .load 9 (.tmp 37), ty1, po1, af1, gd1⟩ s x K Q := by
 have f37 : s.eval (.tmp 37) = _ := e37
 go_simp
 exact hK
theorem deliver_r4_o4 (e3 : s.tmps.getD 3 undef = .pointer (some ⟨mb, 0, none⟩))  (hK : K (s.put (some 39) (.pointer (some ⟨mb, 13, none⟩))) x) :
  Oper.wp Tryz.prog ⟨some 39, .fieldAddr 43 (.tmp 3) 4, ty1, po1, af1, gd1⟩ s x K Q := by
 have f3 : s.eval (.tmp 3) = _ := e3
 go_simp
 exact hK
theorem deliver_r4_o5 (e39 : s.tmps.getD 39 undef = .pointer (some ⟨mb, 13, none⟩)) (k0 : x.cell? ⟨mb, 13, none⟩ = some (.int .i64 (gs : Int))) (hK : K (s.put (some 40) (.int .i64 (gs : Int))) x) :
  Oper.wp Tryz.prog ⟨some 40, .load 3 (.tmp 39), ty1, po1, af1, gd1⟩ s x K Q := by
 have f39 : s.eval (.tmp 39) = _ := e39
 go_simp
 exact hK
theorem deliver_r4_o6 (e35 : s.tmps.getD 35 undef = .pointer (some ⟨fb, 0, none⟩))  (hK : K (s.put (some 41) (.pointer (some ⟨fb, 0, none⟩))) x) :
  Oper.wp Tryz.prog ⟨some 41, .nilCheck (.tmp 35), ty1, po1, af1, gd1⟩ s x K Q := by
 have f35 : s.eval (.tmp 35) = _ := e35
 go_simp
 exact hK
theorem deliver_r4_o7 (e41 : s.tmps.getD 41 undef = .pointer (some ⟨fb, 0, none⟩))  (hK : K (s.put (some 42) (.pointer (some ⟨fb, 15, none⟩))) x) :
  Oper.wp Tryz.prog ⟨some 42, .fieldAddr 137 (.tmp 41) 6, ty1, po1, af1, gd1⟩ s x K Q := by
 have f41 : s.eval (.tmp 41) = _ := e41
 go_simp
 exact hK
theorem deliver_r4_o9 (e36 : s.tmps.getD 36 undef = .pointer (some ⟨fb, 0, none⟩))  (hK : K (s.put (some 43) (.pointer (some ⟨fb, 0, none⟩))) x) :
  Oper.wp Tryz.prog ⟨some 43, .nilCheck (.tmp 36), ty1, po1, af1, gd1⟩ s x K Q := by
 have f36 : s.eval (.tmp 36) = _ := e36
 go_simp
 exact hK
theorem deliver_r4_o10 (e43 : s.tmps.getD 43 undef = .pointer (some ⟨fb, 0, none⟩))  (hK : K (s.put (some 44) (.pointer (some ⟨fb, 16, none⟩))) x) :
  Oper.wp Tryz.prog ⟨some 44, .fieldAddr 137 (.tmp 43) 7, ty1, po1, af1, gd1⟩ s x K Q := by
 have f43 : s.eval (.tmp 43) = _ := e43
 go_simp
 exact hK
theorem deliver_r4 {base fb tb mb gs : Nat} {F : FS} {data : ByteArray} {T : TS} {S : List Nat} {sv mv : Value} {V : TV} {Q : Exit → Act → World → Prop} (a : Act) (w : World) (h : FT base fb tb F T S sv mv V w) (hgl : gs ≤ 100000) (hdata : ∀ x, Kb [fb] w x → x.cell? ⟨mb, 12, none⟩ = some (.string data)) (hgs : ∀ x, Kb [fb] w x → x.cell? ⟨mb, 13, none⟩ = some (.int .i64 (gs : Int))) (h0 : PhD base fb tb (fun p => match p with | 0 => F | 1 => { F with data := data } | _ => { F with data := data, gas := gs }) T S sv mv V w 0 w.drew) (hsz : decide (44 < a.tmps.size) = true) (c3 : a.tmps.getD 3 undef = .pointer (some ⟨mb, 0, none⟩)) (c5 : a.tmps.getD 5 undef = .pointer (some ⟨fb, 0, none⟩))
  (hok : ∀ (x : World), (PhD base fb tb (fun p => match p with | 0 => F | 1 => { F with data := data } | _ => { F with data := data, gas := gs }) T S sv mv V w) 2 x → Q .normal (fill a [(35, .pointer (some ⟨fb, 0, none⟩)), (36, .pointer (some ⟨fb, 0, none⟩)), (37, .pointer (some ⟨mb, 12, none⟩)), (38, .string data), (39, .pointer (some ⟨mb, 13, none⟩)), (40, .int .i64 (gs : Int)), (41, .pointer (some ⟨fb, 0, none⟩)), (42, .pointer (some ⟨fb, 15, none⟩)), (43, .pointer (some ⟨fb, 0, none⟩)), (44, .pointer (some ⟨fb, 16, none⟩))]) x) :
  (Code.region 4 #[⟨some 35, .move (.tmp 5), 132, "trail.go:114", #[], none⟩, ⟨some 36, .move (.tmp 5), 132, "trail.go:114", #[{ on := 8, ground := Ground.gcOnly Departure.lateStores }], none⟩, ⟨some 37, .fieldAddr 43 (.tmp 3) 3, 0, "trail.go:114", #[], none⟩, ⟨some 38, .load 9 (.tmp 37), 9, "trail.go:114", #[⟨2, .data⟩], none⟩, ⟨some 39, .fieldAddr 43 (.tmp 3) 4, 0, "trail.go:114", #[{ on := 8, ground := Ground.gcOnly Departure.lateStores }], none⟩, ⟨some 40, .load 3 (.tmp 39), 3, "trail.go:114", #[⟨4, .data⟩, { on := 8, ground := Ground.gcOnly Departure.lateStores }], none⟩, ⟨some 41, .nilCheck (.tmp 35), 0, "trail.go:114", #[⟨0, .data⟩, ⟨0, .phase⟩, { on := 1, ground := Ground.textOnly Departure.lateStores }, ⟨2, .phase⟩, ⟨3, .phase⟩, { on := 4, ground := Ground.textOnly Departure.lateStores }, { on := 5, ground := Ground.textOnly Departure.lateStores }], none⟩, ⟨some 42, .fieldAddr 137 (.tmp 41) 6, 0, "trail.go:114", #[⟨6, .data⟩, ⟨0, .phase⟩, { on := 1, ground := Ground.textOnly Departure.lateStores }, ⟨2, .phase⟩, ⟨3, .phase⟩, { on := 4, ground := Ground.textOnly Departure.lateStores }, { on := 5, ground := Ground.textOnly Departure.lateStores }], none⟩, ⟨none, .store 9 (.tmp 42) (.tmp 38), 0, "trail.go:114", #[⟨7, .data⟩, ⟨3, .data⟩, ⟨0, .phase⟩, { on := 1, ground := Ground.textOnly Departure.lateStores }, ⟨2, .phase⟩, ⟨3, .phase⟩, { on := 4, ground := Ground.textOnly Departure.lateStores }, { on := 5, ground := Ground.textOnly Departure.lateStores }], none⟩, ⟨some 43, .nilCheck (.tmp 36), 0, "trail.go:114", #[⟨1, .data⟩, ⟨0, .phase⟩, ⟨1, .phase⟩, ⟨2, .phase⟩, ⟨3, .phase⟩, ⟨4, .phase⟩, ⟨5, .phase⟩, ⟨6, .phase⟩, ⟨7, .phase⟩, ⟨8, .phase⟩], none⟩, ⟨some 44, .fieldAddr 137 (.tmp 43) 7, 0, "trail.go:114", #[⟨9, .data⟩, ⟨0, .phase⟩, ⟨1, .phase⟩, ⟨2, .phase⟩, ⟨3, .phase⟩, ⟨4, .phase⟩, ⟨5, .phase⟩, ⟨6, .phase⟩, ⟨7, .phase⟩, ⟨8, .phase⟩], none⟩, ⟨none, .store 3 (.tmp 44) (.tmp 40), 0, "trail.go:114", #[⟨10, .data⟩, ⟨5, .data⟩, ⟨8, .chain⟩, ⟨0, .phase⟩, ⟨1, .phase⟩, ⟨2, .phase⟩, ⟨3, .phase⟩, ⟨4, .phase⟩, ⟨5, .phase⟩, ⟨6, .phase⟩, ⟨7, .phase⟩, ⟨8, .phase⟩], none⟩] true).wp Tryz.prog Q a w := by
 have hsz := of_decide_eq_true hsz
 refine wp_region_ph (by kernel_rfl) (by kernel_rfl) (PhD base fb tb (fun p => match p with | 0 => F | 1 => { F with data := data } | _ => { F with data := data, gas := gs }) T S sv mv V w) (fun _ _ _ => True) [(some 35, Cp (.pointer (some ⟨fb, 0, none⟩))), (some 36, Cp (.pointer (some ⟨fb, 0, none⟩))), (some 37, Cp (.pointer (some ⟨mb, 12, none⟩))), (some 38, Cp (.string data)), (some 39, Cp (.pointer (some ⟨mb, 13, none⟩))), (some 40, Cp (.int .i64 (gs : Int))), (some 41, Cp (.pointer (some ⟨fb, 0, none⟩))), (some 42, Cp (.pointer (some ⟨fb, 15, none⟩))), (none, fun _ _ _ => True), (some 43, Cp (.pointer (some ⟨fb, 0, none⟩))), (some 44, Cp (.pointer (some ⟨fb, 16, none⟩))), (none, fun _ _ _ => True)] [8, 11] rfl (by rfl) ?_ ?_ [(3, .pointer (some ⟨mb, 0, none⟩)), (5, .pointer (some ⟨fb, 0, none⟩))] ?_ (by rfl) (by kernel_rfl) (by rfl) (by rfl) ?_ ?_ ?_ ?_
 ·refine List.all_eq_true.2 fun d hd => decide_eq_true ?_
  have hd2 : d ∈ ([35, 36, 37, 38, 39, 40, 41, 42, 43, 44] : List Nat) := hd
  simp at hd2
  omega
 ·exact h0
 ·intro p hp
  simp only [List.mem_cons, List.not_mem_nil, or_false] at hp
  rcases hp with rfl | rfl
  ·exact c3
  ·exact c5
 ·intro j d T hj p v x x' hne hpl hph hrel ht
  have hjl : j < 12 := (List.getElem?_eq_some_iff.1 hj).1
  rcases ltq12 hjl with rfl | rfl | rfl | rfl | rfl | rfl | rfl | rfl | rfl | rfl | rfl | rfl
  ·obtain ⟨rfl, rfl⟩ := pk hj
   exact ht
  ·obtain ⟨rfl, rfl⟩ := pk hj
   exact ht
  ·obtain ⟨rfl, rfl⟩ := pk hj
   exact ht
  ·obtain ⟨rfl, rfl⟩ := pk hj
   exact ht
  ·obtain ⟨rfl, rfl⟩ := pk hj
   exact ht
  ·obtain ⟨rfl, rfl⟩ := pk hj
   exact ht
  ·obtain ⟨rfl, rfl⟩ := pk hj
   exact ht
  ·obtain ⟨rfl, rfl⟩ := pk hj
   exact ht
  ·obtain ⟨rfl, rfl⟩ := pk hj
   exact ht
  ·obtain ⟨rfl, rfl⟩ := pk hj
   exact ht
  ·obtain ⟨rfl, rfl⟩ := pk hj
   exact ht
  ·obtain ⟨rfl, rfl⟩ := pk hj
   exact ht
 ·intro i o d T ho ht hic k s x hk hlo hhi hph hdf hb hdep
  have hi : i < 12 := (Array.getElem?_eq_some_iff.1 ho).1
  rcases ltq12 hi with rfl | rfl | rfl | rfl | rfl | rfl | rfl | rfl | rfl | rfl | rfl | rfl
  ·obtain rfl := sj ho
   obtain ⟨rfl, rfl⟩ := pk ht
   refine ⟨want_none rfl, fun K hK => ?_⟩
   exact deliver_r4_o0 (hb (5, .pointer (some ⟨fb, 0, none⟩)) (List.Mem.tail _ (List.Mem.head _)))  (hK _ nn1 rfl)
  ·obtain rfl := sj ho
   obtain ⟨rfl, rfl⟩ := pk ht
   refine ⟨want_none rfl, fun K hK => ?_⟩
   exact deliver_r4_o1 (hb (5, .pointer (some ⟨fb, 0, none⟩)) (List.Mem.tail _ (List.Mem.head _)))  (hK _ nn1 rfl)
  ·obtain rfl := sj ho
   obtain ⟨rfl, rfl⟩ := pk ht
   refine ⟨want_none rfl, fun K hK => ?_⟩
   exact deliver_r4_o2 (hb (3, .pointer (some ⟨mb, 0, none⟩)) (List.Mem.head _))  (hK _ nn1 rfl)
  ·obtain rfl := sj ho
   obtain ⟨rfl, rfl⟩ := pk ht
   refine ⟨want_none rfl, fun K hK => ?_⟩
   have k0 := hdata x hph.2
   exact deliver_r4_o3 (hdep ⟨2, .data⟩ (by simp) rfl _ _ rfl) k0 (hK _ nn1 rfl)
  ·obtain rfl := sj ho
   obtain ⟨rfl, rfl⟩ := pk ht
   refine ⟨want_none rfl, fun K hK => ?_⟩
   exact deliver_r4_o4 (hb (3, .pointer (some ⟨mb, 0, none⟩)) (List.Mem.head _))  (hK _ nn1 rfl)
  ·obtain rfl := sj ho
   obtain ⟨rfl, rfl⟩ := pk ht
   refine ⟨want_none rfl, fun K hK => ?_⟩
   have k0 := hgs x hph.2
   exact deliver_r4_o5 (hdep ⟨4, .data⟩ (by simp) rfl _ _ rfl) k0 (hK _ nn1 rfl)
  ·obtain rfl := sj ho
   obtain ⟨rfl, rfl⟩ := pk ht
   refine ⟨want_none rfl, fun K hK => ?_⟩
   exact deliver_r4_o6 (hdep ⟨0, .data⟩ (by simp) rfl _ _ rfl)  (hK _ nn1 rfl)
  ·obtain rfl := sj ho
   obtain ⟨rfl, rfl⟩ := pk ht
   refine ⟨want_none rfl, fun K hK => ?_⟩
   exact deliver_r4_o7 (hdep ⟨6, .data⟩ (by simp) rfl _ _ rfl)  (hK _ nn1 rfl)
  ·exact absurd (by simp) hic
  ·obtain rfl := sj ho
   obtain ⟨rfl, rfl⟩ := pk ht
   refine ⟨want_none rfl, fun K hK => ?_⟩
   exact deliver_r4_o9 (hdep ⟨1, .data⟩ (by simp) rfl _ _ rfl)  (hK _ nn1 rfl)
  ·obtain rfl := sj ho
   obtain ⟨rfl, rfl⟩ := pk ht
   refine ⟨want_none rfl, fun K hK => ?_⟩
   exact deliver_r4_o10 (hdep ⟨9, .data⟩ (by simp) rfl _ _ rfl)  (hK _ nn1 rfl)
  ·exact absurd (by simp) hic
 ·intro p i o d T hp ho ht s x hph hdf hb hdep
  have hpl : p < 2 := (List.getElem?_eq_some_iff.1 hp).1
  rcases ltq2 hpl with rfl | rfl
  ·obtain rfl := sj hp
   obtain rfl := sj ho
   obtain ⟨rfl, rfl⟩ := pk ht
   refine ⟨want_none rfl, fun K hK => ?_⟩
   have hr := hph.1.fr.row
   exact st_storeS (hdep ⟨7, .data⟩ (by simp) rfl _ _ rfl) (hdep ⟨3, .data⟩ (by simp) rfl _ _ rfl) (hr.cell (i := 15) (by decide)) (hr.frozen _) (hK undef _ ⟨hph.1.own rfl rfl rfl rfl rfl hph.1.fr.gal (set_row hr (cell_data _ sv mv data)) ((Kb.refl [fb] x).setCell (Or.inl (by simp)) _), hph.2.setCell (Or.inl (by simp)) _⟩ trivial (fun _ => rfl) trivial)
  ·obtain rfl := sj hp
   obtain rfl := sj ho
   obtain ⟨rfl, rfl⟩ := pk ht
   refine ⟨want_none rfl, fun K hK => ?_⟩
   have hr := hph.1.fr.row
   exact st_storeI (hdep ⟨10, .data⟩ (by simp) rfl _ _ rfl) (hdep ⟨5, .data⟩ (by simp) rfl _ _ rfl) (hr.cell (i := 16) (by decide)) (hr.frozen _) (hK undef _ ⟨hph.1.own rfl rfl rfl rfl rfl hgl (set_row hr (cell_gas _ sv mv gs)) ((Kb.refl [fb] x).setCell (Or.inl (by simp)) _), hph.2.setCell (Or.inl (by simp)) _⟩ trivial (fun _ => rfl) trivial)
 ·intro vs x hph hl hT
  obtain ⟨v0, v1, v2, v3, v4, v5, v6, v7, v8, v9, v10, v11, rfl⟩ := lenq12 hl
  obtain rfl : v0 = .pointer (some ⟨fb, 0, none⟩) := hT 0 _ _ rfl
  obtain rfl : v1 = .pointer (some ⟨fb, 0, none⟩) := hT 1 _ _ rfl
  obtain rfl : v2 = .pointer (some ⟨mb, 12, none⟩) := hT 2 _ _ rfl
  obtain rfl : v3 = .string data := hT 3 _ _ rfl
  obtain rfl : v4 = .pointer (some ⟨mb, 13, none⟩) := hT 4 _ _ rfl
  obtain rfl : v5 = .int .i64 (gs : Int) := hT 5 _ _ rfl
  obtain rfl : v6 = .pointer (some ⟨fb, 0, none⟩) := hT 6 _ _ rfl
  obtain rfl : v7 = .pointer (some ⟨fb, 15, none⟩) := hT 7 _ _ rfl
  obtain rfl : v9 = .pointer (some ⟨fb, 0, none⟩) := hT 9 _ _ rfl
  obtain rfl : v10 = .pointer (some ⟨fb, 16, none⟩) := hT 10 _ _ rfl
  exact hok x hph
end
end
section
open Go.RowKit Go.Maps
set_option maxRecDepth 100000
abbrev msgC (fr tt val : Nat) (data : ByteArray) (gas : Nat) : Array Value := #[.int .u64 (limb fr 0), .int .u64 (limb fr 1), .int .u64 (limb fr 2), .int .u64 (limb fr 3), .int .u64 (limb tt 0), .int .u64 (limb tt 1), .int .u64 (limb tt 2), .int .u64 (limb tt 3), .int .u64 (limb val 0), .int .u64 (limb val 1), .int .u64 (limb val 2), .int .u64 (limb val 3), .string data, .int .i64 (gas : Int)]
abbrev msgV (fr tt val : Nat) (data : ByteArray) (gas : Nat) : Value := .agg (msgC fr tt val data gas)
abbrev d2 (w : World) (fr tt val : Nat) (data : ByteArray) (gas : Nat) : World := (w.alloc (.cells (msgC fr tt val data gas) 43)).alloc rc0
def MsgAt (x : World) (b fr tt val : Nat) (data : ByteArray) (gas : Nat) : Prop := x.rowIs b 43 14 (fun i => (msgC fr tt val data gas).getD i undef)
theorem msg_new (w : World) (fr tt val : Nat) (data : ByteArray) (gas : Nat) : MsgAt (w.alloc (.cells (msgC fr tt val data gas) 43)) w.heap.size fr tt val data gas := by
 refine World.rowIs_alloc w _ _ _ fun i hi => ?_
 rw [Array.getD_eq_getD_getElem?, Array.getElem?_eq_getElem hi]
 rfl
def msgF (tb : Nat) (code : ByteArray) (jd : Value) (fr tt val : Nat) (data : ByteArray) (gas : Nat) : FS := { newF tb code jd with depth := 1, self := tt, caller := fr, value := val, data := data, gas := gas }
set_option maxHeartbeats 8000000 in
theorem deliver_done {base tb : Nat} {rg : Nat} {ro : ByteArray} {T T' : TS} {V : TV} {k : Nat} (fr tt val gas : Nat) (data : ByteArray) (w : World) (h : Tr base tb T V w) (hg : gas ≤ 100000) (hcs : (T.acc tt).code.size ≤ 1000)
  (hc : ∀ jd, ∃ F', Chain k (msgF tb (T.acc tt).code jd fr tt val data gas) (moveT T val fr tt) (some F') T' ∧ F'.status = 0 ∧ F'.gas = rg ∧ F'.out = ro) (hlo : T'.logs = []) (hn : V.n + 4 + 2 * k < 100000000) (hl : T.ch.length < 999999990) :
  Calls Tryz.prog 35 #[.pointer (some ⟨tb, 0, none⟩), msgV fr tt val data gas] w fun e w' => e = .returned (resV 0 rg ro noL) ∧ TrTo base tb T T' V [] (4 + 2 * k) w w' := by
 go_enter Tryz.func35, Tryz.ntmps35
 go_wp2
 have hB : Below w.heap.size w (d2 w fr tt val data gas) := bal (bal (Below.refl _ w) _) _
 have h2 := h.below hB
 have hm : MsgAt (d2 w fr tt val data gas) w.heap.size fr tt val data gas := row_below (msg_new w fr tt val data gas) (bal (Below.refl _ _) _)
 obtain ⟨f, hf, hf'⟩ := h2.acc.map
 obtain ⟨sv, e1, e3, e4, e5⟩ := h2.acc.read tt hf'
 obtain ⟨om, rfl⟩ := e3.is
 have c0 := h2.row.cell (i := 0) (by decide)
 rw [show trC V 0 = .map (some V.ab) from rfl] at c0
 refine deliver_r1 (tt := tt) (mb := w.heap.size) (ab := V.ab) (bl := (T.acc tt).bal) (code := (T.acc tt).code) (o := om) _ _ h2 hcs h2.row.lt c0 (fun x hx => ?_) (fun x hx => ?_) (Below.refl _ _).drew rfl rfl rfl ?_
 ·have hr := row_below hm hx
  exact ⟨hr.cell (i := 4) (by decide), hr.cell (i := 5) (by decide), hr.cell (i := 6) (by decide), hr.cell (i := 7) (by decide)⟩
 ·have := (hf.kb (Kb.of_below (S := []) hx) (by simp)).look ty_acc zero_acc tt
  rw [e1] at this
  exact this
 rintro x z9 z10 hx - ⟨-, fb, jd, rfl, hfb, hbx, hft⟩
 obtain ⟨F', hcj, hst, rfl, rfl⟩ := hc jd
 simp only [fill, List.foldl_cons, List.foldl_nil, Act.put]
 simp only [List.setIfInBounds_toArray, List.set_cons_zero, List.set_cons_succ]
 have cd := hft.fr.row.cell (i := 18) (by decide)
 have fd := hft.fr.row.frozen 18
 rw [show (newF tb (T.acc tt).code jd).cell noL noL 18 = .int .i64 0 from rfl] at cd
 have hd : FT base fb tb { newF tb (T.acc tt).code jd with depth := 1 } T [fb] noL noL V (x.setCell ⟨fb, 18, none⟩ (.int .i64 1)) :=
  hft.own rfl rfl rfl rfl rfl hft.fr.gal (set_row hft.fr.row (cell_depth _ noL noL 1)) ((Kb.refl [fb] x).setCell (Or.inl (by simp)) _)
 have hkd : Kb [fb] x (x.setCell ⟨fb, 18, none⟩ (.int .i64 1)) := (Kb.refl [fb] x).setCell (Or.inl (by simp)) _
 have hfb2 : w.heap.size + 1 < fb := by simp at hfb; omega
 have hmx := row_below hm hbx
 go_wp2
 generalize x.setCell ⟨fb, 18, none⟩ (.int .i64 1) = x1 at *
 have hm1 : ∀ y, Kb [fb] x1 y → MsgAt y w.heap.size fr tt val data gas := fun y hy => (hkd.trans hy (fun i hi => Or.inl hi)).row hmx (by simp; omega)
 refine deliver_r3 (mb := w.heap.size) (fr := fr) (tt := tt) (val := val) _ x1 hd (fun y hy => ?_) (fun y hy => ?_) (fun y hy => ?_) ⟨hd.below (Below.refl _ _).drew, (Kb.refl _ _).drew⟩ rfl rfl rfl ?_
 ·have hr := hm1 y hy
  exact ⟨hr.cell (i := 4) (by decide), hr.cell (i := 5) (by decide), hr.cell (i := 6) (by decide), hr.cell (i := 7) (by decide)⟩
 ·have hr := hm1 y hy
  exact ⟨hr.cell (i := 0) (by decide), hr.cell (i := 1) (by decide), hr.cell (i := 2) (by decide), hr.cell (i := 3) (by decide)⟩
 ·have hr := hm1 y hy
  exact ⟨hr.cell (i := 8) (by decide), hr.cell (i := 9) (by decide), hr.cell (i := 10) (by decide), hr.cell (i := 11) (by decide)⟩
 rintro x3 ⟨hf3, hk3⟩
 simp only [fill, List.foldl_cons, List.foldl_nil, Act.put]
 simp only [List.setIfInBounds_toArray, List.set_cons_zero, List.set_cons_succ]
 go_wp2
 refine deliver_r4 (mb := w.heap.size) (gs := gas) (data := data) _ x3 hf3 hg (fun y hy => ?_) (fun y hy => ?_) ⟨hf3.below (Below.refl _ _).drew, (Kb.refl _ _).drew⟩ rfl rfl rfl ?_
 ·exact (hm1 y (hk3.trans hy (fun i hi => Or.inl hi))).cell (i := 12) (by decide)
 ·exact (hm1 y (hk3.trans hy (fun i hi => Or.inl hi))).cell (i := 13) (by decide)
 rintro x4 ⟨hf4, hk4⟩
 have hkx : Kb [fb] x x4 := (hkd.trans hk3 (fun i hi => Or.inl hi)).trans hk4 (fun i hi => Or.inl hi)
 have hm4 := hm1 x4 (hk3.trans hk4 (fun i hi => Or.inl hi))
 have m0 := hm4.cell (i := 0) (by decide)
 have m1 := hm4.cell (i := 1) (by decide)
 have m2 := hm4.cell (i := 2) (by decide)
 have m3 := hm4.cell (i := 3) (by decide)
 have m4 := hm4.cell (i := 4) (by decide)
 have m5 := hm4.cell (i := 5) (by decide)
 have m6 := hm4.cell (i := 6) (by decide)
 have m7 := hm4.cell (i := 7) (by decide)
 have m8 := hm4.cell (i := 8) (by decide)
 have m9 := hm4.cell (i := 9) (by decide)
 have m10 := hm4.cell (i := 10) (by decide)
 have m11 := hm4.cell (i := 11) (by decide)
 simp only [msgC, Array.getD_eq_getD_getElem?, List.getElem?_toArray, List.getElem?_cons_zero, List.getElem?_cons_succ, Option.getD_some] at m0 m1 m2 m3 m4 m5 m6 m7 m8 m9 m10 m11
 have HW := hid_of (wake_done val fr tt x4 hf4 hcj hst hn hl)
 have HKX : Hid (Below w.heap.size w x ∧ Kb [fb] x x4 ∧ w.heap.size + 1 < fb) := ⟨hB.trans (hbx.mono hB.size), hkx, hfb2⟩
 have HRA : Hid (ResAt x4 (w.heap.size + 1) 0 0 ⟨#[]⟩ noL) := by
  have h0 : ResAt (d2 w fr tt val data gas) (w.heap.size + 1) 0 0 ⟨#[]⟩ noL := by unfold ResAt; simp [go_sem]
  exact (h0.below hbx).kb hkx (by simp; omega)
 have HS4 : Hid (w.heap.size + 1 < x4.heap.size) := lt_cell HRA.out.1.1
 have HTL : Hid (∀ k, Tfoot tb T V k → k < w.heap.size) := fun k hk => h.lt hk
 clear hm4 hkx hk4 hf4 hk3 hf3 hm1 hmx hkd hd cd fd hft hbx hfb hx c0 e1 e3 e4 e5 hf hf' hm h2 hB h hc hcj hn hl
 simp only [fill, List.foldl_cons, List.foldl_nil, Act.put]
 simp only [List.setIfInBounds_toArray, List.set_cons_zero, List.set_cons_succ]
 go_wp2_with fail
 refine HW.out.mono ?_
 rintro e w5 ⟨rfl, ht⟩
 obtain ⟨V5, S5, t1, t2, t3, t4, t5, t6⟩ := ht
 clear m0 m1 m2 m3 m4 m5 m6 m7 m8 m9 m10 m11 HW
 obtain ⟨ad, cp, hlv⟩ := own_sl t1.lo.2.1
 rw [hlo] at hlv
 have t7 := t1.below ((bal (Below.refl _ w5) (.cells #[.int .u8 0, .int .i64 (F'.gas : Int), .string F'.out, .slice none 0 0] 38)).drew)
 have c3 := t7.row.cell (i := 3) (by decide)
 rw [show trC V5 3 = V5.lv from rfl, hlv] at c3
 have HT := hid_of (And.intro t1 (And.intro t2 (And.intro t3 (And.intro t4 (And.intro t5 t6)))))
 have hrs5 : ResAt w5 (w.heap.size + 1) 0 0 ⟨#[]⟩ noL := by
  refine HRA.out.kb t2 fun hm => ?_
  rcases t3 _ hm with e | e
  ·have := HKX.out.2.2
   simp at e
   omega
  ·have := HTL.out _ e; omega
 obtain ⟨⟨k0, k1, k2, k3⟩, f0, f1, f2, f3⟩ := hrs5.below (bal (Below.refl _ w5) (.cells #[.int .u8 0, .int .i64 (F'.gas : Int), .string F'.out, .slice none 0 0] 38))
 clear t1 t2 t3 t4 t5 t6 t7 hlv HRA
 have HRP : Hid (ResAt (putR (w5.alloc (.cells #[.int .u8 0, .int .i64 (F'.gas : Int), .string F'.out, .slice none 0 0] 38)) (w.heap.size + 1) 0 F'.gas F'.out noL).drew (w.heap.size + 1) 0 F'.gas F'.out noL) := by
  show ResAt _ _ _ _ _ _
  exact ((hrs5.below (bal (Below.refl _ w5) _)).put (st := 0) (gs := F'.gas) (out := F'.out) (lv := noL)).below (Below.refl _ _).drew
 have HTP : Hid (TrTo base tb T T' V [] (4 + 2 * k) w (putR (w5.alloc (.cells #[.int .u8 0, .int .i64 (F'.gas : Int), .string F'.out, .slice none 0 0] 38)) (w.heap.size + 1) 0 F'.gas F'.out noL).drew) := by
  obtain ⟨t1, t2, t3, t4, t5, t6⟩ := HT.out
  obtain ⟨hbx, hkx, hfb9⟩ := HKX.out
  have hs4 : w.heap.size + 1 < x4.heap.size := by
   exact HS4.out
  have hnb : ¬ Tfoot tb T' V5 (w.heap.size + 1) := fun hf => by
   rcases t4 _ hf with e | e
   ·have := HTL.out _ e; omega
   ·omega
  refine ⟨V5, S5.filter (fun k => decide (k < w.heap.size)), ((t1.below (bal (Below.refl _ _) _)).kb (putR_kb (Kb.refl [w.heap.size + 1] _) (Or.inl (by simp))) (fun k hk hf => hnb (by simp at hk; rw [← hk]; exact hf)) (by simp)).below (Below.refl _ _).drew, ?_, fun i hi => ?_, fun i hi => ?_, t5, t6⟩
  ·refine (putR_kb (Kb.alloc ?_ _) (Or.inr (by omega))).drew
   refine ((Kb.of_below hbx).trans hkx (fun i hi => Or.inr (by simp at hi; omega))).trans t2 (fun i hi => ?_)
   by_cases hl : i < w.heap.size
   ·exact Or.inl (List.mem_filter.2 ⟨hi, by simpa using hl⟩)
   ·exact Or.inr (by omega)
  ·obtain ⟨e1, e2⟩ := List.mem_filter.1 hi
   have e2 : i < w.heap.size := by simpa using e2
   rcases t3 i e1 with e | e
   ·simp at e; omega
   ·exact Or.inr e
  ·rcases t4 i hi with e | e
   ·exact Or.inl e
   ·exact Or.inr (by omega)
 clear HT hrs5
 cases ad
 all_goals (
  go_wp2
  go_region
  go_wp2
  change bodyPost Tryz.prog Tryz.f35 _ _ _ (putR (w5.alloc (.cells #[.int .u8 0, .int .i64 (F'.gas : Int), .string F'.out, .slice none 0 0] 38)) (w.heap.size + 1) 0 F'.gas F'.out noL).drew
  generalize (putR (w5.alloc (.cells #[.int .u8 0, .int .i64 (F'.gas : Int), .string F'.out, .slice none 0 0] 38)) (w.heap.size + 1) 0 F'.gas F'.out noL).drew = z at *
  obtain ⟨⟨y0, y1, y2, y3⟩, _⟩ := HRP.out
  refine bodyPost_ret (v := resV 0 F'.gas F'.out noL) (by simp [results, Tryz.results35, go_sem, y0, y1, y2, y3]) rfl ⟨rfl, HTP.out⟩)
end
section
open Go.RowKit Go.Maps
set_option maxRecDepth 100000
abbrev muLink : Go.Conc.Locks.MuLink := { lock := 31, unlock := 32, ilock := 57, iunlock := 58, lockSlow := 87, unlockSlow := 90, disable := 83, enable := 85, acquire := 86, relMerge := 88, cas32 := 84, add32 := 89, tMutex := 87, tIMutex := 85, tPMutex := 126, tPIMutex := 176, tPI32 := 178, tUP := 180, tNoCopy := 82, tU32 := 83 }
theorem muLib : Go.Conc.Locks.MuLib Tryz.prog muLink :=
 ⟨Tryz.func31, Tryz.func32, Tryz.func57, Tryz.func58, Tryz.func83, Tryz.func85, Tryz.func86, Tryz.func88, Tryz.func84, Tryz.func89, Tryz.underlying85, Tryz.runUnderlying85, Tryz.sizeOf85, Tryz.isAgg85, Tryz.zeroValue85, Tryz.underlying87, Tryz.runUnderlying87, Tryz.sizeOf87, Tryz.isAgg87, Tryz.zeroValue87, Tryz.underlying126, Tryz.runUnderlying126, Tryz.sizeOf126, Tryz.isAgg126, Tryz.zeroValue126, Tryz.underlying176, Tryz.runUnderlying176, Tryz.sizeOf176, Tryz.isAgg176, Tryz.zeroValue176, Tryz.underlying178, Tryz.runUnderlying178, Tryz.sizeOf178, Tryz.isAgg178, Tryz.zeroValue178, Tryz.underlying180, Tryz.runUnderlying180, Tryz.sizeOf180, Tryz.isAgg180, Tryz.zeroValue180, Tryz.underlying82, Tryz.runUnderlying82, Tryz.sizeOf82, Tryz.isAgg82, Tryz.zeroValue82, Tryz.underlying21, Tryz.runUnderlying21, Tryz.sizeOf21, Tryz.isAgg21, Tryz.zeroValue21, (by kernel_rfl)⟩
end
section
open Go.RowKit Go.Maps
set_option maxHeartbeats 8000000
set_option maxRecDepth 100000
def T0 (A : Nat → Acc) : TS := { acc := A, pas := fun _ _ => 0, ch := [], logs := [] }
def V0 (ab pb n : Nat) (sb : Nat → Value) : TV := { ab := ab, pb := pb, n := n, sb := sb, cv := .slice none 0 0, lv := .slice none 0 0, tv := [] }
abbrev nt2 (w : World) (ab : Nat) : World := (w.alloc (.map #[] 0)).alloc (.cells #[.map (some ab), .map (some w.heap.size), .slice none 0 0, .slice none 0 0] 131)
theorem newTrail_Tr {ab n : Nat} {A : Nat → Acc} {sb : Nat → Value} {w : World} (h : Accs ab n A sb w) (hz : Zr w) : Tr w.heap.size (w.heap.size + 1) (T0 A) (V0 ab w.heap.size n sb) (nt2 w ab) := by
 have hB : Below w.heap.size w (nt2 w ab) := bal (bal (Below.refl _ w) _) _
 have hs : (w.alloc (.map #[] 0)).heap.size = w.heap.size + 1 := by simp
 refine ⟨?_, h.kb (Kb.of_below (S := []) hB) (by simp), ?_, World.ownsRow_nil _ _ _ _, ⟨rfl, World.ownsRow_nil _ _ _ _, fun i l t hl => by simp [T0] at hl⟩, hz.below hB, hB.size, hz.2, fun hf => ?_⟩
 ·have hr := World.rowIs_alloc (w.alloc (.map #[] 0)) #[.map (some ab), .map (some w.heap.size), .slice none 0 0, .slice none 0 0] 131 (trC (V0 ab w.heap.size n sb)) (fun i hi => by
   have hi : i < 4 := hi
   rcases k4 hi with rfl | rfl | rfl | rfl <;> rfl)
  rw [hs] at hr
  exact hr
 ·refine PM.mono (n := 0) ⟨fun _ => none, ?_, fun a k => rfl⟩ (Nat.zero_le _)
  refine (MapV.made Tryz.prog 217 w).block ?_
  have := (bal (Below.refl _ (w.alloc (.map #[] 0))) (.cells #[.map (some ab), .map (some w.heap.size), .slice none 0 0, .slice none 0 0] 131)).block w.heap.size (by simp)
  exact this
 ·have := h.lt hf
  exact absurd this (by show ¬ w.heap.size < _; omega)
theorem newTrail_any {ab n : Nat} {A : Nat → Acc} {sb : Nat → Value} (w : World) (h : Accs ab n A sb w) (hz : Zr w) :
  Calls Tryz.prog 34 #[.map (some ab)] w fun e w' => e = .returned (.pointer (some ⟨w.heap.size + 1, 0, none⟩)) ∧ Below w.heap.size w w' ∧ Tr w.heap.size (w.heap.size + 1) (T0 A) (V0 ab w.heap.size n sb) w' := by
 have HT := hid_of (newTrail_Tr h hz)
 have hmm := @run_makeMap Tryz.prog
 clear h hz
 go_enter Tryz.func34, Tryz.ntmps34
 go_wp2
 refine bodyPost_ret (v := .pointer (some ⟨w.heap.size + 1, 0, none⟩)) (by simp [results, Tryz.results34, go_sem]) rfl ⟨rfl, bal (bal (Below.refl _ w) _) _, HT.out⟩
theorem isMessage_ok (fr tt val gas : Nat) (data : ByteArray) (hd : data.size ≤ 500) (hg : gas ≤ 100000) (w : World) :
  Calls Tryz.prog 30 #[msgV fr tt val data gas] w fun e w' => e = .returned (.bool true) ∧ Below w.heap.size w w' := by
 have d1 : decide ((data.size : Int) ≤ 500) = true := decide_eq_true (by omega)
 have d2 : decide ((0 : Int) ≤ (gas : Int)) = true := decide_eq_true (by omega)
 have d3 : decide ((gas : Int) ≤ 100000) = true := decide_eq_true (by omega)
 go_enter Tryz.func30, Tryz.ntmps30
 go_wp2
 refine bodyPost_ret (v := .bool true) (by simp [results, Tryz.results30, go_sem]) rfl ⟨rfl, bal (Below.refl _ w) _⟩
end
section
open Go.RowKit Go.Maps
set_option maxHeartbeats 8000000
set_option maxRecDepth 100000
theorem own_compare : Own 33 := fun _ _ => by kernel_rfl
theorem own_newTrail : Own 34 := fun _ _ => by kernel_rfl
theorem own_deliver : Own 35 := fun _ _ => by kernel_rfl
theorem MsgAt.cells {x : World} {b fr tt val gs : Nat} {data : ByteArray} (h : MsgAt x b fr tt val data gs) : x.cell? ⟨b, 0, none⟩ = some (.int .u64 (limb fr 0)) ∧ x.cell? ⟨b, 1, none⟩ = some (.int .u64 (limb fr 1)) ∧ x.cell? ⟨b, 2, none⟩ = some (.int .u64 (limb fr 2)) ∧ x.cell? ⟨b, 3, none⟩ = some (.int .u64 (limb fr 3)) ∧ x.cell? ⟨b, 4, none⟩ = some (.int .u64 (limb tt 0)) ∧ x.cell? ⟨b, 5, none⟩ = some (.int .u64 (limb tt 1)) ∧ x.cell? ⟨b, 6, none⟩ = some (.int .u64 (limb tt 2)) ∧ x.cell? ⟨b, 7, none⟩ = some (.int .u64 (limb tt 3)) ∧ x.cell? ⟨b, 8, none⟩ = some (.int .u64 (limb val 0)) ∧ x.cell? ⟨b, 9, none⟩ = some (.int .u64 (limb val 1)) ∧ x.cell? ⟨b, 10, none⟩ = some (.int .u64 (limb val 2)) ∧ x.cell? ⟨b, 11, none⟩ = some (.int .u64 (limb val 3)) ∧ x.cell? ⟨b, 12, none⟩ = some (.string data) ∧ x.cell? ⟨b, 13, none⟩ = some (.int .i64 (gs : Int)) := by
 refine ⟨h.cell (i := 0) (by decide), h.cell (i := 1) (by decide), h.cell (i := 2) (by decide), h.cell (i := 3) (by decide), h.cell (i := 4) (by decide), h.cell (i := 5) (by decide), h.cell (i := 6) (by decide), h.cell (i := 7) (by decide), h.cell (i := 8) (by decide), h.cell (i := 9) (by decide), h.cell (i := 10) (by decide), h.cell (i := 11) (by decide), h.cell (i := 12) (by decide), h.cell (i := 13) (by decide)⟩
def TrK (A : Nat → Acc) (ab n : Nat) (sb : Nat → Value) (w : World) : Kp := fun p v x => ∃ tb pb base, v = .pointer (some ⟨tb, 0, none⟩) ∧ (p = 1 → Tr base tb (T0 A) (V0 ab pb n sb) x ∧ tb = base + 1 ∧ pb = base ∧ w.heap.size ≤ base)
def PhZ (R : World → Prop) (b st rg : Nat) (out : ByteArray) (w : World) : Nat → World → Prop
 | 0, x => Below w.heap.size w x
 | 1, x => Below w.heap.size w x
 | 2, x => R x
 | _, x => ∃ y, R y ∧ x = putR y b st rg out noL
theorem phz_low {R : World → Prop} {b st rg : Nat} {out : ByteArray} {w x : World} {k : Nat} (h : PhZ R b st rg out w k x) (hk : k ≤ 1) : Below w.heap.size w x := by
 match k, hk, h with
 | 0, _, h => exact h
 | 1, _, h => exact h
section
variable {gb mb ab bl fr tt val gs : Nat} {o : Option Nat} {code data : ByteArray} {s : Act} {x : World} {K : Act → World → Prop} {Q : Exit → Act → World → Prop} {ty1 : TypeId} {po1 : String} {af1 : Array Edge} {gd1 : Option (Nat × Bool)}
theorem send_r5_o0 (e0 : s.tmps.getD 0 undef = .pointer (some ⟨gb, 0, none⟩))  (hK : K (s.put (some 17) (.pointer (some ⟨gb, 0, none⟩))) x) :
  Oper.wp Tryz.prog ⟨some 17, .move (.tmp 0), ty1, po1, af1, gd1⟩ s x K Q := by
 have f0 : s.eval (.tmp 0) = _ := e0
 go_simp
 exact hK
theorem send_r5_o1 (e17 : s.tmps.getD 17 undef = .pointer (some ⟨gb, 0, none⟩))  (hK : K (s.put (some 18) (.pointer (some ⟨gb, 0, none⟩))) x) :
  Oper.wp Tryz.prog ⟨some 18, .nilCheck (.tmp 17), ty1, po1, af1, gd1⟩ s x K Q := by
 have f17 : s.eval (.tmp 17) = _ := e17
 go_simp
 exact hK
theorem send_r5_o2 (e18 : s.tmps.getD 18 undef = .pointer (some ⟨gb, 0, none⟩))  (hK : K (s.put (some 19) (.pointer (some ⟨gb, 2, none⟩))) x) :
  Oper.wp Tryz.prog ⟨some 19, .fieldAddr 91 (.tmp 18) 1, ty1, po1, af1, gd1⟩ s x K Q := by
 have f18 : s.eval (.tmp 18) = _ := e18
 go_simp
 exact hK
theorem send_r5_o3 (e19 : s.tmps.getD 19 undef = .pointer (some ⟨gb, 2, none⟩)) (k0 : x.cell? ⟨gb, 2, none⟩ = some (.map (some ab))) (hK : K (s.put (some 20) (.map (some ab))) x) :
  Oper.wp Tryz.prog ⟨some 20, .load 89 (.tmp 19), ty1, po1, af1, gd1⟩ s x K Q := by
 have f19 : s.eval (.tmp 19) = _ := e19
 go_simp
 exact hK
theorem send_r5_o4 (e3 : s.tmps.getD 3 undef = .pointer (some ⟨mb, 0, none⟩))  (hK : K (s.put (some 21) (.pointer (some ⟨mb, 0, none⟩))) x) :
  Oper.wp Tryz.prog ⟨some 21, .fieldAddr 43 (.tmp 3) 0, ty1, po1, af1, gd1⟩ s x K Q := by
 have f3 : s.eval (.tmp 3) = _ := e3
 go_simp
 exact hK
theorem send_r5_o5 (e21 : s.tmps.getD 21 undef = .pointer (some ⟨mb, 0, none⟩)) (q0 : x.cell? ⟨mb, 0, none⟩ = some (.int .u64 (limb fr 0))) (q1 : x.cell? ⟨mb, 1, none⟩ = some (.int .u64 (limb fr 1))) (q2 : x.cell? ⟨mb, 2, none⟩ = some (.int .u64 (limb fr 2))) (q3 : x.cell? ⟨mb, 3, none⟩ = some (.int .u64 (limb fr 3))) (hK : K (s.put (some 22) (.agg #[.int .u64 (limb fr 0), .int .u64 (limb fr 1), .int .u64 (limb fr 2), .int .u64 (limb fr 3)])) x) :
  Oper.wp Tryz.prog ⟨some 22, .load 24 (.tmp 21), ty1, po1, af1, gd1⟩ s x K Q := by
 have f21 : s.eval (.tmp 21) = _ := e21
 go_simp
 exact hK
theorem send_r5_o6 (e20 : s.tmps.getD 20 undef = .map (some ab)) (e22 : s.tmps.getD 22 undef = .agg #[.int .u64 (limb fr 0), .int .u64 (limb fr 1), .int .u64 (limb fr 2), .int .u64 (limb fr 3)]) (hk : (Instr.lookup 89 (.map (some ab)) (wv fr) false).run Tryz.prog x = .ok (accV bl code (.map o)) x) (hK : K (s.put (some 23) (accV bl code (.map o))) x) :
  Oper.wp Tryz.prog ⟨some 23, .lookup 89 (.tmp 20) (.tmp 22) false, ty1, po1, af1, gd1⟩ s x K Q := by
 have f20 : s.eval (.tmp 20) = _ := e20
 have f22 : s.eval (.tmp 22) = _ := e22
 go_simp
 exact hK
theorem send_r5_o7 (e23 : s.tmps.getD 23 undef = accV bl code (.map o)) (hk : (Instr.field 95 (accV bl code (.map o)) 0).run Tryz.prog x = .ok (wv bl) x) (hK : K (s.put (some 24) (wv bl)) x) :
  Oper.wp Tryz.prog ⟨some 24, .field 95 (.tmp 23) 0, ty1, po1, af1, gd1⟩ s x K Q := by
 have f23 : s.eval (.tmp 23) = _ := e23
 go_simp
 exact hK
theorem send_r5_o8 (e3 : s.tmps.getD 3 undef = .pointer (some ⟨mb, 0, none⟩))  (hK : K (s.put (some 25) (.pointer (some ⟨mb, 8, none⟩))) x) :
  Oper.wp Tryz.prog ⟨some 25, .fieldAddr 43 (.tmp 3) 2, ty1, po1, af1, gd1⟩ s x K Q := by
 have f3 : s.eval (.tmp 3) = _ := e3
 go_simp
 exact hK
theorem send_r5_o9 (e25 : s.tmps.getD 25 undef = .pointer (some ⟨mb, 8, none⟩)) (q8 : x.cell? ⟨mb, 8, none⟩ = some (.int .u64 (limb val 0))) (q9 : x.cell? ⟨mb, 9, none⟩ = some (.int .u64 (limb val 1))) (q10 : x.cell? ⟨mb, 10, none⟩ = some (.int .u64 (limb val 2))) (q11 : x.cell? ⟨mb, 11, none⟩ = some (.int .u64 (limb val 3))) (hK : K (s.put (some 26) (.agg #[.int .u64 (limb val 0), .int .u64 (limb val 1), .int .u64 (limb val 2), .int .u64 (limb val 3)])) x) :
  Oper.wp Tryz.prog ⟨some 26, .load 24 (.tmp 25), ty1, po1, af1, gd1⟩ s x K Q := by
 have f25 : s.eval (.tmp 25) = _ := e25
 go_simp
 exact hK
theorem send_r5_o11 (e27 : s.tmps.getD 27 undef = .int .i64 (cmpw bl val))  (hK : K (s.put (some 28) (.bool (decide (cmpw bl val < 0)))) x) :
  Oper.wp Tryz.prog ⟨some 28, .binOp .lss 3 (.tmp 27) (.const (.int .i64 0)) 3, ty1, po1, af1, gd1⟩ s x K Q := by
 have f27 : s.eval (.tmp 27) = _ := e27
 go_simp
 exact hK
theorem send_r5 {gb mb ab bl fr tt val gs : Nat} {o : Option Nat} {code data : ByteArray} {Q : Exit → Act → World → Prop} (a : Act) (w : World) (hlt : gb < w.heap.size) (hab : w.cell? ⟨gb, 2, none⟩ = some (.map (some ab))) (hm : MsgAt w mb fr tt val data gs) (hlook : ∀ x, Below w.heap.size w x → (Instr.lookup 89 (.map (some ab)) (wv fr) false).run Tryz.prog x = .ok (accV bl code (.map o)) x) (h0 : Below w.heap.size w w.drew) (hsz : decide (28 < a.tmps.size) = true) (c0 : a.tmps.getD 0 undef = .pointer (some ⟨gb, 0, none⟩)) (c3 : a.tmps.getD 3 undef = .pointer (some ⟨mb, 0, none⟩))
  (hok : ∀ (x : World), (PhO (fun x => Below w.heap.size w x) w) 1 x → Q .normal (fill a [(17, .pointer (some ⟨gb, 0, none⟩)), (18, .pointer (some ⟨gb, 0, none⟩)), (19, .pointer (some ⟨gb, 2, none⟩)), (20, .map (some ab)), (21, .pointer (some ⟨mb, 0, none⟩)), (22, .agg #[.int .u64 (limb fr 0), .int .u64 (limb fr 1), .int .u64 (limb fr 2), .int .u64 (limb fr 3)]), (23, accV bl code (.map o)), (24, wv bl), (25, .pointer (some ⟨mb, 8, none⟩)), (26, .agg #[.int .u64 (limb val 0), .int .u64 (limb val 1), .int .u64 (limb val 2), .int .u64 (limb val 3)]), (27, .int .i64 (cmpw bl val)), (28, .bool (decide (cmpw bl val < 0)))]) x) :
  (Code.region 5 #[⟨some 17, .move (.tmp 0), 29, "host.go:31", #[], none⟩, ⟨some 18, .nilCheck (.tmp 17), 0, "host.go:31", #[⟨0, .data⟩], none⟩, ⟨some 19, .fieldAddr 91 (.tmp 18) 1, 0, "host.go:31", #[⟨1, .data⟩], none⟩, ⟨some 20, .load 89 (.tmp 19), 89, "host.go:31", #[⟨2, .data⟩], none⟩, ⟨some 21, .fieldAddr 43 (.tmp 3) 0, 0, "host.go:31", #[], none⟩, ⟨some 22, .load 24 (.tmp 21), 24, "host.go:31", #[⟨4, .data⟩], none⟩, ⟨some 23, .lookup 89 (.tmp 20) (.tmp 22) false, 95, "host.go:31", #[⟨3, .data⟩, ⟨5, .data⟩], none⟩, ⟨some 24, .field 95 (.tmp 23) 0, 24, "host.go:31", #[⟨6, .data⟩], none⟩, ⟨some 25, .fieldAddr 43 (.tmp 3) 2, 0, "host.go:31", #[], none⟩, ⟨some 26, .load 24 (.tmp 25), 24, "host.go:31", #[⟨8, .data⟩], none⟩, ⟨some 27, .call ⟨.value (.func 33), #[.tmp 24, .tmp 26], #[24, 24]⟩, 3, "host.go:31", #[⟨7, .data⟩, ⟨9, .data⟩], none⟩, ⟨some 28, .binOp .lss 3 (.tmp 27) (.const (.int .i64 0)) 3, 4, "host.go:31", #[⟨10, .data⟩], none⟩] true).wp Tryz.prog Q a w := by
 have hsz := of_decide_eq_true hsz
 refine wp_region_ph (by kernel_rfl) (by kernel_rfl) (PhO (fun x => Below w.heap.size w x) w) (fun _ _ _ => True) [(some 17, Cp (.pointer (some ⟨gb, 0, none⟩))), (some 18, Cp (.pointer (some ⟨gb, 0, none⟩))), (some 19, Cp (.pointer (some ⟨gb, 2, none⟩))), (some 20, Cp (.map (some ab))), (some 21, Cp (.pointer (some ⟨mb, 0, none⟩))), (some 22, Cp (.agg #[.int .u64 (limb fr 0), .int .u64 (limb fr 1), .int .u64 (limb fr 2), .int .u64 (limb fr 3)])), (some 23, Cp (accV bl code (.map o))), (some 24, Cp (wv bl)), (some 25, Cp (.pointer (some ⟨mb, 8, none⟩))), (some 26, Cp (.agg #[.int .u64 (limb val 0), .int .u64 (limb val 1), .int .u64 (limb val 2), .int .u64 (limb val 3)])), (some 27, Cp (.int .i64 (cmpw bl val))), (some 28, Cp (.bool (decide (cmpw bl val < 0))))] [10] rfl (by rfl) ?_ ?_ [(0, .pointer (some ⟨gb, 0, none⟩)), (3, .pointer (some ⟨mb, 0, none⟩))] ?_ (by rfl) (by kernel_rfl) (by rfl) (by rfl) ?_ ?_ ?_ ?_
 ·refine List.all_eq_true.2 fun d hd => decide_eq_true ?_
  have hd2 : d ∈ ([17, 18, 19, 20, 21, 22, 23, 24, 25, 26, 27, 28] : List Nat) := hd
  simp at hd2
  omega
 ·exact h0
 ·intro p hp
  simp only [List.mem_cons, List.not_mem_nil, or_false] at hp
  rcases hp with rfl | rfl
  ·exact c0
  ·exact c3
 ·intro j d T hj p v x x' hne hpl hph hrel ht
  have hjl : j < 12 := (List.getElem?_eq_some_iff.1 hj).1
  rcases ltq12 hjl with rfl | rfl | rfl | rfl | rfl | rfl | rfl | rfl | rfl | rfl | rfl | rfl
  ·obtain ⟨rfl, rfl⟩ := pk hj
   exact ht
  ·obtain ⟨rfl, rfl⟩ := pk hj
   exact ht
  ·obtain ⟨rfl, rfl⟩ := pk hj
   exact ht
  ·obtain ⟨rfl, rfl⟩ := pk hj
   exact ht
  ·obtain ⟨rfl, rfl⟩ := pk hj
   exact ht
  ·obtain ⟨rfl, rfl⟩ := pk hj
   exact ht
  ·obtain ⟨rfl, rfl⟩ := pk hj
   exact ht
  ·obtain ⟨rfl, rfl⟩ := pk hj
   exact ht
  ·obtain ⟨rfl, rfl⟩ := pk hj
   exact ht
  ·obtain ⟨rfl, rfl⟩ := pk hj
   exact ht
  ·obtain ⟨rfl, rfl⟩ := pk hj
   exact ht
  ·obtain ⟨rfl, rfl⟩ := pk hj
   exact ht
 ·intro i o d T ho ht hic k s x hk hlo hhi hph hdf hb hdep
  have hi : i < 12 := (Array.getElem?_eq_some_iff.1 ho).1
  rcases ltq12 hi with rfl | rfl | rfl | rfl | rfl | rfl | rfl | rfl | rfl | rfl | rfl | rfl
  ·obtain rfl := sj ho
   obtain ⟨rfl, rfl⟩ := pk ht
   refine ⟨want_none rfl, fun K hK => ?_⟩
   exact send_r5_o0 (hb (0, .pointer (some ⟨gb, 0, none⟩)) (List.Mem.head _))  (hK _ nn1 rfl)
  ·obtain rfl := sj ho
   obtain ⟨rfl, rfl⟩ := pk ht
   refine ⟨want_none rfl, fun K hK => ?_⟩
   exact send_r5_o1 (hdep ⟨0, .data⟩ (by simp) rfl _ _ rfl)  (hK _ nn1 rfl)
  ·obtain rfl := sj ho
   obtain ⟨rfl, rfl⟩ := pk ht
   refine ⟨want_none rfl, fun K hK => ?_⟩
   exact send_r5_o2 (hdep ⟨1, .data⟩ (by simp) rfl _ _ rfl)  (hK _ nn1 rfl)
  ·obtain rfl := sj ho
   obtain ⟨rfl, rfl⟩ := pk ht
   refine ⟨want_none rfl, fun K hK => ?_⟩
   have k0 : x.cell? ⟨gb, 2, none⟩ = some (.map (some ab)) := ((pho_low hph (by have := hhi 0 10 rfl (by kernel_rfl); omega)).cell hlt).trans hab
   exact send_r5_o3 (hdep ⟨2, .data⟩ (by simp) rfl _ _ rfl) k0 (hK _ nn1 rfl)
  ·obtain rfl := sj ho
   obtain ⟨rfl, rfl⟩ := pk ht
   refine ⟨want_none rfl, fun K hK => ?_⟩
   exact send_r5_o4 (hb (3, .pointer (some ⟨mb, 0, none⟩)) (List.Mem.tail _ (List.Mem.head _)))  (hK _ nn1 rfl)
  ·obtain rfl := sj ho
   obtain ⟨rfl, rfl⟩ := pk ht
   refine ⟨want_none rfl, fun K hK => ?_⟩
   obtain ⟨q0, q1, q2, q3, q4, q5, q6, q7, q8, q9, q10, q11, q12, q13⟩ := (show MsgAt x mb fr tt val data gs from row_below hm (pho_low hph (by have := hhi 0 10 rfl (by kernel_rfl); omega))).cells
   exact send_r5_o5 (hdep ⟨4, .data⟩ (by simp) rfl _ _ rfl) q0 q1 q2 q3 (hK _ nn1 rfl)
  ·obtain rfl := sj ho
   obtain ⟨rfl, rfl⟩ := pk ht
   refine ⟨want_none rfl, fun K hK => ?_⟩
   have hk := hlook x (pho_low hph (by have := hhi 0 10 rfl (by kernel_rfl); omega))
   exact send_r5_o6 (hdep ⟨3, .data⟩ (by simp) rfl _ _ rfl) (hdep ⟨5, .data⟩ (by simp) rfl _ _ rfl) hk (hK _ nn1 rfl)
  ·obtain rfl := sj ho
   obtain ⟨rfl, rfl⟩ := pk ht
   refine ⟨want_none rfl, fun K hK => ?_⟩
   have hk := acc_f0 bl code o x
   exact send_r5_o7 (hdep ⟨6, .data⟩ (by simp) rfl _ _ rfl) hk (hK _ nn1 rfl)
  ·obtain rfl := sj ho
   obtain ⟨rfl, rfl⟩ := pk ht
   refine ⟨want_none rfl, fun K hK => ?_⟩
   exact send_r5_o8 (hb (3, .pointer (some ⟨mb, 0, none⟩)) (List.Mem.tail _ (List.Mem.head _)))  (hK _ nn1 rfl)
  ·obtain rfl := sj ho
   obtain ⟨rfl, rfl⟩ := pk ht
   refine ⟨want_none rfl, fun K hK => ?_⟩
   obtain ⟨q0, q1, q2, q3, q4, q5, q6, q7, q8, q9, q10, q11, q12, q13⟩ := (show MsgAt x mb fr tt val data gs from row_below hm (pho_low hph (by have := hhi 0 10 rfl (by kernel_rfl); omega))).cells
   exact send_r5_o9 (hdep ⟨8, .data⟩ (by simp) rfl _ _ rfl) q8 q9 q10 q11 (hK _ nn1 rfl)
  ·exact absurd (by simp) hic
  ·obtain rfl := sj ho
   obtain ⟨rfl, rfl⟩ := pk ht
   refine ⟨want_none rfl, fun K hK => ?_⟩
   exact send_r5_o11 (hdep ⟨10, .data⟩ (by simp) rfl _ _ rfl)  (hK _ nn1 rfl)
 ·intro p i o d T hp ho ht s x hph hdf hb hdep
  have hpl : p < 1 := (List.getElem?_eq_some_iff.1 hp).1
  obtain rfl : p = 0 := by omega
  ·obtain rfl := sj hp
   obtain rfl := sj ho
   obtain ⟨rfl, rfl⟩ := pk ht
   refine ⟨want_none rfl, fun K hK => ?_⟩
   have hph : Below w.heap.size w x := hph
   refine st_call own_compare (ev2 (hdep ⟨7, .data⟩ (by simp) rfl _ _ rfl) (hdep ⟨9, .data⟩ (by simp) rfl _ _ rfl)) (compare_any bl val x) ?_
   rintro e y ⟨rfl, hB⟩
   exact ⟨_, rfl, hK _ y (hph.trans (hB.mono hph.size)) trivial nn1 rfl⟩
 ·intro vs x hph hl hT
  obtain ⟨v0, v1, v2, v3, v4, v5, v6, v7, v8, v9, v10, v11, rfl⟩ := lenq12 hl
  obtain rfl : v0 = .pointer (some ⟨gb, 0, none⟩) := hT 0 _ _ rfl
  obtain rfl : v1 = .pointer (some ⟨gb, 0, none⟩) := hT 1 _ _ rfl
  obtain rfl : v2 = .pointer (some ⟨gb, 2, none⟩) := hT 2 _ _ rfl
  obtain rfl : v3 = .map (some ab) := hT 3 _ _ rfl
  obtain rfl : v4 = .pointer (some ⟨mb, 0, none⟩) := hT 4 _ _ rfl
  obtain rfl : v5 = .agg #[.int .u64 (limb fr 0), .int .u64 (limb fr 1), .int .u64 (limb fr 2), .int .u64 (limb fr 3)] := hT 5 _ _ rfl
  obtain rfl : v6 = accV bl code (.map o) := hT 6 _ _ rfl
  obtain rfl : v7 = wv bl := hT 7 _ _ rfl
  obtain rfl : v8 = .pointer (some ⟨mb, 8, none⟩) := hT 8 _ _ rfl
  obtain rfl : v9 = .agg #[.int .u64 (limb val 0), .int .u64 (limb val 1), .int .u64 (limb val 2), .int .u64 (limb val 3)] := hT 9 _ _ rfl
  obtain rfl : v10 = .int .i64 (cmpw bl val) := hT 10 _ _ rfl
  obtain rfl : v11 = .bool (decide (cmpw bl val < 0)) := hT 11 _ _ rfl
  exact hok x hph
end
section
variable {gb mb ab n fr tt val gs b st rg st0 rg0 : Nat} {A : Nat → Acc} {sb : Nat → Value} {data out out0 : ByteArray} {R : World → Prop} {s : Act} {x : World} {K : Act → World → Prop} {Q : Exit → Act → World → Prop} {ty1 : TypeId} {po1 : String} {af1 : Array Edge} {gd1 : Option (Nat × Bool)}
theorem send_r7_o0 (e0 : s.tmps.getD 0 undef = .pointer (some ⟨gb, 0, none⟩))  (hK : K (s.put (some 30) (.pointer (some ⟨gb, 0, none⟩))) x) :
  Oper.wp Tryz.prog ⟨some 30, .move (.tmp 0), ty1, po1, af1, gd1⟩ s x K Q := by
 have f0 : s.eval (.tmp 0) = _ := e0
 go_simp
 exact hK
theorem send_r7_o1 (e30 : s.tmps.getD 30 undef = .pointer (some ⟨gb, 0, none⟩))  (hK : K (s.put (some 31) (.pointer (some ⟨gb, 0, none⟩))) x) :
  Oper.wp Tryz.prog ⟨some 31, .nilCheck (.tmp 30), ty1, po1, af1, gd1⟩ s x K Q := by
 have f30 : s.eval (.tmp 30) = _ := e30
 go_simp
 exact hK
theorem send_r7_o2 (e31 : s.tmps.getD 31 undef = .pointer (some ⟨gb, 0, none⟩))  (hK : K (s.put (some 32) (.pointer (some ⟨gb, 2, none⟩))) x) :
  Oper.wp Tryz.prog ⟨some 32, .fieldAddr 91 (.tmp 31) 1, ty1, po1, af1, gd1⟩ s x K Q := by
 have f31 : s.eval (.tmp 31) = _ := e31
 go_simp
 exact hK
theorem send_r7_o3 (e32 : s.tmps.getD 32 undef = .pointer (some ⟨gb, 2, none⟩)) (k0 : x.cell? ⟨gb, 2, none⟩ = some (.map (some ab))) (hK : K (s.put (some 33) (.map (some ab))) x) :
  Oper.wp Tryz.prog ⟨some 33, .load 89 (.tmp 32), ty1, po1, af1, gd1⟩ s x K Q := by
 have f32 : s.eval (.tmp 32) = _ := e32
 go_simp
 exact hK
theorem send_r7_o5 (e3 : s.tmps.getD 3 undef = .pointer (some ⟨mb, 0, none⟩)) (q0 : x.cell? ⟨mb, 0, none⟩ = some (.int .u64 (limb fr 0))) (q1 : x.cell? ⟨mb, 1, none⟩ = some (.int .u64 (limb fr 1))) (q2 : x.cell? ⟨mb, 2, none⟩ = some (.int .u64 (limb fr 2))) (q3 : x.cell? ⟨mb, 3, none⟩ = some (.int .u64 (limb fr 3))) (q4 : x.cell? ⟨mb, 4, none⟩ = some (.int .u64 (limb tt 0))) (q5 : x.cell? ⟨mb, 5, none⟩ = some (.int .u64 (limb tt 1))) (q6 : x.cell? ⟨mb, 6, none⟩ = some (.int .u64 (limb tt 2))) (q7 : x.cell? ⟨mb, 7, none⟩ = some (.int .u64 (limb tt 3))) (q8 : x.cell? ⟨mb, 8, none⟩ = some (.int .u64 (limb val 0))) (q9 : x.cell? ⟨mb, 9, none⟩ = some (.int .u64 (limb val 1))) (q10 : x.cell? ⟨mb, 10, none⟩ = some (.int .u64 (limb val 2))) (q11 : x.cell? ⟨mb, 11, none⟩ = some (.int .u64 (limb val 3))) (q12 : x.cell? ⟨mb, 12, none⟩ = some (.string data)) (q13 : x.cell? ⟨mb, 13, none⟩ = some (.int .i64 (gs : Int))) (hK : K (s.put (some 35) (.agg #[.int .u64 (limb fr 0), .int .u64 (limb fr 1), .int .u64 (limb fr 2), .int .u64 (limb fr 3), .int .u64 (limb tt 0), .int .u64 (limb tt 1), .int .u64 (limb tt 2), .int .u64 (limb tt 3), .int .u64 (limb val 0), .int .u64 (limb val 1), .int .u64 (limb val 2), .int .u64 (limb val 3), .string data, .int .i64 (gs : Int)])) x) :
  Oper.wp Tryz.prog ⟨some 35, .load 43 (.tmp 3), ty1, po1, af1, gd1⟩ s x K Q := by
 have f3 : s.eval (.tmp 3) = _ := e3
 go_simp
 exact hK
theorem send_r7_o8   (hK : K (s.put (some 5) (.int .i64 0)) x) :
  Oper.wp Tryz.prog ⟨some 5, .assign (.const (.int .i64 0)), ty1, po1, af1, gd1⟩ s x K Q := by
 go_simp
 exact hK
theorem send_r7 {gb mb ab n fr tt val gs b st rg st0 rg0 : Nat} {A : Nat → Acc} {sb : Nat → Value} {data out out0 : ByteArray} {R : World → Prop} {Q : Exit → Act → World → Prop} (a : Act) (w : World) (hlt : gb < w.heap.size) (hab : w.cell? ⟨gb, 2, none⟩ = some (.map (some ab))) (hm : MsgAt w mb fr tt val data gs) (hacc : Accs ab n A sb w) (hz : Zr w) (hdel : ∀ tb pb base x, Below w.heap.size w x → Tr base tb (T0 A) (V0 ab pb n sb) x → tb = base + 1 → pb = base → w.heap.size ≤ base → Calls Tryz.prog 35 #[.pointer (some ⟨tb, 0, none⟩), .agg #[.int .u64 (limb fr 0), .int .u64 (limb fr 1), .int .u64 (limb fr 2), .int .u64 (limb fr 3), .int .u64 (limb tt 0), .int .u64 (limb tt 1), .int .u64 (limb tt 2), .int .u64 (limb tt 3), .int .u64 (limb val 0), .int .u64 (limb val 1), .int .u64 (limb val 2), .int .u64 (limb val 3), .string data, .int .i64 (gs : Int)]] x fun e w' => e = .returned (.agg #[.int .u8 (st : Int), .int .i64 (rg : Int), .string out, .slice none 0 0]) ∧ R w') (hres : ∀ x, R x → ResAt x b st0 rg0 out0 noL) (h0 : Below w.heap.size w w.drew) (hsz : decide (36 < a.tmps.size) = true) (c0 : a.tmps.getD 0 undef = .pointer (some ⟨gb, 0, none⟩)) (c3 : a.tmps.getD 3 undef = .pointer (some ⟨mb, 0, none⟩)) (c4 : a.tmps.getD 4 undef = .pointer (some ⟨b, 0, none⟩))
  (hok : ∀ (x : World) (z4 : Value), (PhZ R b st rg out w) 3 x → (TrK A ab n sb w) 3 z4 x → Q .normal (fill a [(30, .pointer (some ⟨gb, 0, none⟩)), (31, .pointer (some ⟨gb, 0, none⟩)), (32, .pointer (some ⟨gb, 2, none⟩)), (33, .map (some ab)), (34, z4), (35, .agg #[.int .u64 (limb fr 0), .int .u64 (limb fr 1), .int .u64 (limb fr 2), .int .u64 (limb fr 3), .int .u64 (limb tt 0), .int .u64 (limb tt 1), .int .u64 (limb tt 2), .int .u64 (limb tt 3), .int .u64 (limb val 0), .int .u64 (limb val 1), .int .u64 (limb val 2), .int .u64 (limb val 3), .string data, .int .i64 (gs : Int)]), (36, .agg #[.int .u8 (st : Int), .int .i64 (rg : Int), .string out, .slice none 0 0]), (5, .int .i64 0)]) x) :
  (Code.region 7 #[⟨some 30, .move (.tmp 0), 29, "host.go:34", #[], none⟩, ⟨some 31, .nilCheck (.tmp 30), 0, "host.go:34", #[⟨0, .data⟩], none⟩, ⟨some 32, .fieldAddr 91 (.tmp 31) 1, 0, "host.go:34", #[⟨1, .data⟩], none⟩, ⟨some 33, .load 89 (.tmp 32), 89, "host.go:34", #[⟨2, .data⟩], none⟩, ⟨some 34, .call ⟨.value (.func 34), #[.tmp 33], #[89]⟩, 96, "host.go:34", #[⟨3, .data⟩], none⟩, ⟨some 35, .load 43 (.tmp 3), 43, "host.go:34", #[], none⟩, ⟨some 36, .call ⟨.value (.func 35), #[.tmp 34, .tmp 35], #[96, 43]⟩, 38, "host.go:34", #[⟨4, .data⟩, ⟨5, .data⟩, ⟨4, .chain⟩], none⟩, ⟨none, .store 38 (.tmp 4) (.tmp 36), 0, "host.go:34", #[⟨6, .data⟩, ⟨6, .chain⟩, ⟨0, .phase⟩, ⟨1, .phase⟩, ⟨2, .phase⟩, ⟨3, .phase⟩, ⟨4, .phase⟩, ⟨5, .phase⟩, ⟨6, .phase⟩], none⟩, ⟨some 5, .assign (.const (.int .i64 0)), 39, "host.go:34", #[⟨7, .chain⟩, ⟨0, .phase⟩, ⟨1, .phase⟩, ⟨2, .phase⟩, ⟨3, .phase⟩, ⟨4, .phase⟩, ⟨5, .phase⟩, ⟨6, .phase⟩, ⟨7, .phase⟩], none⟩] true).wp Tryz.prog Q a w := by
 have hsz := of_decide_eq_true hsz
 refine wp_region_ph (by kernel_rfl) (by kernel_rfl) (PhZ R b st rg out w) (fun _ _ _ => True) [(some 30, Cp (.pointer (some ⟨gb, 0, none⟩))), (some 31, Cp (.pointer (some ⟨gb, 0, none⟩))), (some 32, Cp (.pointer (some ⟨gb, 2, none⟩))), (some 33, Cp (.map (some ab))), (some 34, TrK A ab n sb w), (some 35, Cp (.agg #[.int .u64 (limb fr 0), .int .u64 (limb fr 1), .int .u64 (limb fr 2), .int .u64 (limb fr 3), .int .u64 (limb tt 0), .int .u64 (limb tt 1), .int .u64 (limb tt 2), .int .u64 (limb tt 3), .int .u64 (limb val 0), .int .u64 (limb val 1), .int .u64 (limb val 2), .int .u64 (limb val 3), .string data, .int .i64 (gs : Int)])), (some 36, Cp (.agg #[.int .u8 (st : Int), .int .i64 (rg : Int), .string out, .slice none 0 0])), (none, fun _ _ _ => True), (some 5, Cp (.int .i64 0))] [4, 6, 7] rfl (by rfl) ?_ ?_ [(0, .pointer (some ⟨gb, 0, none⟩)), (3, .pointer (some ⟨mb, 0, none⟩)), (4, .pointer (some ⟨b, 0, none⟩))] ?_ (by rfl) (by kernel_rfl) (by rfl) (by rfl) ?_ ?_ ?_ ?_
 ·refine List.all_eq_true.2 fun d hd => decide_eq_true ?_
  have hd2 : d ∈ ([30, 31, 32, 33, 34, 35, 36, 5] : List Nat) := hd
  simp at hd2
  omega
 ·exact h0
 ·intro p hp
  simp only [List.mem_cons, List.not_mem_nil, or_false] at hp
  rcases hp with rfl | rfl | rfl
  ·exact c0
  ·exact c3
  ·exact c4
 ·intro j d T hj p v x x' hne hpl hph hrel ht
  have hjl : j < 9 := (List.getElem?_eq_some_iff.1 hj).1
  rcases ltq9 hjl with rfl | rfl | rfl | rfl | rfl | rfl | rfl | rfl | rfl
  ·obtain ⟨rfl, rfl⟩ := pk hj
   exact ht
  ·obtain ⟨rfl, rfl⟩ := pk hj
   exact ht
  ·obtain ⟨rfl, rfl⟩ := pk hj
   exact ht
  ·obtain ⟨rfl, rfl⟩ := pk hj
   exact ht
  ·obtain ⟨rfl, rfl⟩ := pk hj
   obtain ⟨tb, pb, base, e, h1⟩ := ht
   have hp0 : p ≠ 0 := fun e2 => hne (by rw [e2]; rfl)
   exact ⟨tb, pb, base, e, fun h2 => absurd h2 (by omega)⟩
  ·obtain ⟨rfl, rfl⟩ := pk hj
   exact ht
  ·obtain ⟨rfl, rfl⟩ := pk hj
   exact ht
  ·obtain ⟨rfl, rfl⟩ := pk hj
   exact ht
  ·obtain ⟨rfl, rfl⟩ := pk hj
   exact ht
 ·intro i o d T ho ht hic k s x hk hlo hhi hph hdf hb hdep
  have hi : i < 9 := (Array.getElem?_eq_some_iff.1 ho).1
  rcases ltq9 hi with rfl | rfl | rfl | rfl | rfl | rfl | rfl | rfl | rfl
  ·obtain rfl := sj ho
   obtain ⟨rfl, rfl⟩ := pk ht
   refine ⟨want_none rfl, fun K hK => ?_⟩
   exact send_r7_o0 (hb (0, .pointer (some ⟨gb, 0, none⟩)) (List.Mem.head _))  (hK _ nn1 rfl)
  ·obtain rfl := sj ho
   obtain ⟨rfl, rfl⟩ := pk ht
   refine ⟨want_none rfl, fun K hK => ?_⟩
   exact send_r7_o1 (hdep ⟨0, .data⟩ (by simp) rfl _ _ rfl)  (hK _ nn1 rfl)
  ·obtain rfl := sj ho
   obtain ⟨rfl, rfl⟩ := pk ht
   refine ⟨want_none rfl, fun K hK => ?_⟩
   exact send_r7_o2 (hdep ⟨1, .data⟩ (by simp) rfl _ _ rfl)  (hK _ nn1 rfl)
  ·obtain rfl := sj ho
   obtain ⟨rfl, rfl⟩ := pk ht
   refine ⟨want_none rfl, fun K hK => ?_⟩
   have k0 : x.cell? ⟨gb, 2, none⟩ = some (.map (some ab)) := ((phz_low hph (by have := hhi 0 4 rfl (by kernel_rfl); omega)).cell hlt).trans hab
   exact send_r7_o3 (hdep ⟨2, .data⟩ (by simp) rfl _ _ rfl) k0 (hK _ nn1 rfl)
  ·exact absurd (by simp) hic
  ·obtain rfl := sj ho
   obtain ⟨rfl, rfl⟩ := pk ht
   refine ⟨want_none rfl, fun K hK => ?_⟩
   obtain ⟨q0, q1, q2, q3, q4, q5, q6, q7, q8, q9, q10, q11, q12, q13⟩ := (show MsgAt x mb fr tt val data gs from row_below hm (phz_low hph (by have := hhi 1 6 rfl (by kernel_rfl); omega))).cells
   exact send_r7_o5 (hb (3, .pointer (some ⟨mb, 0, none⟩)) (List.Mem.tail _ (List.Mem.head _))) q0 q1 q2 q3 q4 q5 q6 q7 q8 q9 q10 q11 q12 q13 (hK _ nn1 rfl)
  ·exact absurd (by simp) hic
  ·exact absurd (by simp) hic
  ·obtain rfl := sj ho
   obtain ⟨rfl, rfl⟩ := pk ht
   refine ⟨want_none rfl, fun K hK => ?_⟩
   exact send_r7_o8   (hK _ nn1 rfl)
 ·intro p i o d T hp ho ht s x hph hdf hb hdep
  have hpl : p < 3 := (List.getElem?_eq_some_iff.1 hp).1
  rcases ltq3 hpl with rfl | rfl | rfl
  ·obtain rfl := sj hp
   obtain rfl := sj ho
   obtain ⟨rfl, rfl⟩ := pk ht
   refine ⟨want_none rfl, fun K hK => ?_⟩
   have hph : Below w.heap.size w x := hph
   refine st_call own_newTrail (ev1 (hdep ⟨3, .data⟩ (by simp) rfl _ _ rfl)) (newTrail_any x (hacc.kb (Kb.of_below (S := []) hph) (by simp)) (hz.below hph)) ?_
   rintro e y ⟨rfl, hB, hT⟩
   exact ⟨_, rfl, hK _ y (hph.trans (hB.mono hph.size)) trivial nn1 ⟨_, _, _, rfl, fun _ => ⟨hT, rfl, rfl, hph.size⟩⟩⟩
  ·obtain rfl := sj hp
   obtain rfl := sj ho
   obtain ⟨rfl, rfl⟩ := pk ht
   refine ⟨want_none rfl, fun K hK => ?_⟩
   have hph : Below w.heap.size w x := hph
   have h34 := (hdep ⟨4, .data⟩ (by simp) rfl _ _ rfl)
   obtain ⟨tb, pb, base, e34, hT⟩ := h34
   obtain ⟨hT, htb, hpb, hwb⟩ := hT rfl
   refine st_call own_deliver (ev2 e34 (hdep ⟨5, .data⟩ (by simp) rfl _ _ rfl)) (hdel tb pb base x hph hT htb hpb hwb) ?_
   rintro e y ⟨rfl, hR⟩
   exact ⟨_, rfl, hK _ y hR trivial nn1 rfl⟩
  ·obtain rfl := sj hp
   obtain rfl := sj ho
   obtain ⟨rfl, rfl⟩ := pk ht
   refine ⟨want_none rfl, fun K hK => ?_⟩
   exact st_storeR (st := st) (gs := rg) (out := out) (hb (4, .pointer (some ⟨b, 0, none⟩)) (List.Mem.tail _ (List.Mem.tail _ (List.Mem.head _)))) (hdep ⟨6, .data⟩ (by simp) rfl _ _ rfl) (hres x hph) (hK undef _ ⟨x, hph, rfl⟩ trivial (fun _ => rfl) trivial)
 ·intro vs x hph hl hT
  obtain ⟨v0, v1, v2, v3, v4, v5, v6, v7, v8, rfl⟩ := lenq9 hl
  obtain rfl : v0 = .pointer (some ⟨gb, 0, none⟩) := hT 0 _ _ rfl
  obtain rfl : v1 = .pointer (some ⟨gb, 0, none⟩) := hT 1 _ _ rfl
  obtain rfl : v2 = .pointer (some ⟨gb, 2, none⟩) := hT 2 _ _ rfl
  obtain rfl : v3 = .map (some ab) := hT 3 _ _ rfl
  have t4 : (TrK A ab n sb w) 3 v4 x := hT 4 _ _ rfl
  obtain rfl : v5 = .agg #[.int .u64 (limb fr 0), .int .u64 (limb fr 1), .int .u64 (limb fr 2), .int .u64 (limb fr 3), .int .u64 (limb tt 0), .int .u64 (limb tt 1), .int .u64 (limb tt 2), .int .u64 (limb tt 3), .int .u64 (limb val 0), .int .u64 (limb val 1), .int .u64 (limb val 2), .int .u64 (limb val 3), .string data, .int .i64 (gs : Int)] := hT 5 _ _ rfl
  obtain rfl : v6 = .agg #[.int .u8 (st : Int), .int .i64 (rg : Int), .string out, .slice none 0 0] := hT 6 _ _ rfl
  obtain rfl : v8 = .int .i64 0 := hT 8 _ _ rfl
  exact hok x v4 hph t4
end
end
section
open Go.RowKit Go.Maps Go.MuLone
set_option maxRecDepth 100000
def hostC (ab i : Nat) : Value := if i = 0 then .int .i32 0 else if i = 1 then .int .u32 0 else .map (some ab)
structure HostAt (gb ab n : Nat) (A : Nat → Acc) (sb : Nat → Value) (w : World) : Prop where
 row : w.rowIs gb 91 3 (hostC ab)
 acc : Accs ab n A sb w
 zr : Zr w
abbrev s2 (w : World) (fr tt val : Nat) (data : ByteArray) (gas : Nat) : World := (w.alloc (.cells (msgC fr tt val data gas) 43)).alloc rc0
def SentR (ab n m gb b : Nat) (A : Nat → Acc) (sb : Nat → Value) (T' : TS) (w y : World) : Prop := ∃ (V' : TV) (S2 : List Nat), Accs ab V'.n T'.acc V'.sb y ∧ V'.n ≤ n + m ∧ Kb S2 w y ∧ (∀ k ∈ S2, Afoot ab A sb k) ∧ Zr y ∧ (∀ k, Afoot ab T'.acc V'.sb k → Afoot ab A sb k ∨ w.heap.size ≤ k)
theorem sentR_of {base tb pb ab n m gb b : Nat} {A : Nat → Acc} {sb : Nat → Value} {T' : TS} {w x y : World} (hx : Below w.heap.size w x) (ha : Accs ab n A sb w) (htb : tb = base + 1) (hpb : pb = base) (hwb : w.heap.size ≤ base) (h : TrTo base tb (T0 A) T' (V0 ab pb n sb) [] m x y) : SentR ab n m gb b A sb T' w y := by
 obtain ⟨V', S2, h1, h2, h3, h4, h5, h6⟩ := h
 have hab : V'.ab = ab := h6
 have hacc := h1.acc
 rw [hab] at hacc
 have hT0 : ∀ k, Tfoot tb (T0 A) (V0 ab pb n sb) k → Afoot ab A sb k ∨ w.heap.size ≤ k := fun k hk => by
  rcases hk with e | e | e | e | e | ⟨t, ht, e⟩
  ·exact Or.inr (by omega)
  ·exact Or.inl e
  ·exact Or.inr (by have : (V0 ab pb n sb).pb = pb := rfl; omega)
  ·cases e
  ·cases e
  ·cases ht
 refine ⟨V', S2.filter (fun k => decide (k < w.heap.size)), hacc, h5, (Kb.of_below hx).trans h2 (fun i hi => ?_), fun i hi => ?_, h1.zr, fun k hk => ?_⟩
 ·by_cases hl : i < w.heap.size
  ·exact Or.inl (List.mem_filter.2 ⟨hi, by simpa using hl⟩)
  ·exact Or.inr (by omega)
 ·obtain ⟨e1, e2⟩ := List.mem_filter.1 hi
  have e2 : i < w.heap.size := by simpa using e2
  rcases h3 i e1 with e | e
  ·cases e
  ·rcases hT0 i e with e | e
   ·exact e
   ·omega
 ·rcases h4 k (Or.inr (Or.inl (by rw [hab]; exact hk))) with e | e
  ·exact hT0 k e
  ·exact Or.inr (Nat.le_trans hx.size e)
set_option maxHeartbeats 8000000 in
theorem send_done {gb ab n : Nat} {A : Nat → Acc} {sb : Nat → Value} {rg : Nat} {ro : ByteArray} {T' : TS} {k : Nat} (fr tt val gas : Nat) (data : ByteArray) (w : World) (h : HostAt gb ab n A sb w) (hd : data.size ≤ 500) (hg : gas ≤ 100000) (hcmp : decide (cmpw (A fr).bal val < 0) = false) (hcs : (A tt).code.size ≤ 1000)
  (hc : ∀ tb jd, ∃ F', Chain k (msgF tb (A tt).code jd fr tt val data gas) (moveT (T0 A) val fr tt) (some F') T' ∧ F'.status = 0 ∧ F'.gas = rg ∧ F'.out = ro) (hlo : T'.logs = []) (hn : n + 4 + 2 * k < 100000000) :
  Calls Tryz.prog 13 #[.pointer (some ⟨gb, 0, none⟩), msgV fr tt val data gas] w fun e w' => e = .returned (.tuple #[resV 0 rg ro noL, .int .i64 0]) ∧ (∃ n' sb', HostAt gb ab n' T'.acc sb' w' ∧ n' ≤ n + (4 + 2 * k)) ∧ ∃ S2, Kb (gb :: S2) w w' ∧ ∀ k ∈ S2, Afoot ab A sb k := by
 have hB : Below w.heap.size w (s2 w fr tt val data gas) := bal (bal (Below.refl _ w) _) _
 have HM := hid_of (isMessage_ok fr tt val gas data hd hg (s2 w fr tt val data gas))
 have HH := hid_of h
 have HB := hid_of hB
 have HC := hid_of hc
 clear h hB hc
 go_enter_defers Tryz.func13, Tryz.ntmps13
 go_wp2_with fail
 refine HM.out.mono ?_
 rintro e w1 ⟨rfl, hb1⟩
 have hB1 : Below w.heap.size w w1 := HB.out.trans (hb1.mono HB.out.size)
 have hr1 := row_below HH.out.row hB1
 have l0 := hr1.cell (i := 0) (by decide)
 have lz := hr1.frozen 0
 rw [show hostC ab 0 = .int .i32 0 from rfl] at l0
 have HLK := hid_of (lock_free muLib ⟨gb, 0, none⟩ w1 l0 lz)
 have hm1 : MsgAt w1 w.heap.size fr tt val data gas := row_below (row_below (msg_new w fr tt val data gas) (bal (Below.refl _ _) _)) hb1
 have hrs1 : ResAt w1 (w.heap.size + 1) 0 0 ⟨#[]⟩ noL := by
  have h0 : ResAt (s2 w fr tt val data gas) (w.heap.size + 1) 0 0 ⟨#[]⟩ noL := by unfold ResAt; simp [go_sem]
  exact h0.below hb1
 have HX := hid_of (And.intro hB1 (And.intro hm1 hrs1))
 clear hb1 hB1 hr1 l0 lz hm1 hrs1 HM
 go_wp2_with fail
 refine HLK.out.mono ?_
 rintro e w2 ⟨rfl, rfl⟩
 have HH1 := row_below HH.out.row HX.out.1
 have hgl : gb < w1.heap.size := HH1.lt
 have hgw : gb < w.heap.size := HH.out.row.lt
 have hk2 : Kb [gb] w1 (w1.setCell ⟨gb, 0, none⟩ (.int .i32 1)) := (Kb.refl [gb] w1).setCell (Or.inl (by simp)) _
 have hr2 : (w1.setCell ⟨gb, 0, none⟩ (.int .i32 1)).rowIs gb 91 3 (fun i => if i = 0 then .int .i32 1 else hostC ab i) := HH1.set 0 _
 have hacc1 := HH.out.acc.kb (Kb.of_below (S := []) HX.out.1) (by simp)
 have hacc2 := hacc1.kb hk2 (fun k hk hf => row_map_ne HH1 (hacc1.isMap hf) (List.mem_singleton.1 hk).symm)
 have hz1 := HH.out.zr.below HX.out.1
 have hz2 : Zr (w1.setCell ⟨gb, 0, none⟩ (.int .i32 1)) := hz1.kb hk2 (fun hm => by
  have e : (0 : Nat) = gb := by simpa using hm
  have h1 := HH1.cell (i := 0) (by decide)
  rw [← e, hz1.1.1] at h1
  cases h1)
 have hm2 : MsgAt (w1.setCell ⟨gb, 0, none⟩ (.int .i32 1)) w.heap.size fr tt val data gas := hk2.row HX.out.2.1 (by simp; omega)
 have hs2 := HX.out.2.2.kb hk2 (by simp; omega)
 go_wp2
 generalize w1.setCell ⟨gb, 0, none⟩ (.int .i32 1) = x2 at *
 obtain ⟨f, hf, hf'⟩ := hacc2.map
 obtain ⟨sv, e1, e3, e4, e5⟩ := hacc2.read fr hf'
 obtain ⟨om, rfl⟩ := e3.is
 have c2 := hr2.cell (i := 2) (by decide)
 refine send_r5 (mb := w.heap.size) (ab := ab) (bl := (A fr).bal) (code := (A fr).code) (o := om) (val := val) _ x2 hr2.lt c2 hm2 (fun x hx => ?_) (Below.refl _ _).drew rfl rfl rfl ?_
 ·have := (hf.kb (Kb.of_below (S := []) hx) (by simp)).look ty_acc zero_acc fr
  rw [e1] at this
  exact this
 intro x3 hx3
 have hx3 : Below x2.heap.size x2 x3 := hx3
 simp only [fill, List.foldl_cons, List.foldl_nil, Act.put]
 simp only [List.setIfInBounds_toArray, List.set_cons_zero, List.set_cons_succ]
 rw [hcmp]
 have hr3 := row_below hr2 hx3
 have hacc3 := hacc2.kb (Kb.of_below (S := []) hx3) (by simp)
 have hz3 := hz2.below hx3
 have hm3 := row_below hm2 hx3
 have hs3 := hs2.below hx3
 have c3 := hr3.cell (i := 2) (by decide)
 clear c2 e1 e3 e4 e5 hf hf' hr2 hacc2 hz2 hm2 hs2
 go_wp2
 have hnotA : ∀ b T N (f : Nat → Value), x3.rowIs b T N f → ∀ k, Afoot ab A sb k → b ≠ k := fun b T N f hr k hk => row_map_ne hr (hacc3.isMap hk)
 refine send_r7 (mb := w.heap.size) (ab := ab) (n := n) (A := A) (sb := sb) (b := w.heap.size + 1) (st := 0) (rg := rg) (out := ro) (st0 := 0) (rg0 := 0) (out0 := ⟨#[]⟩) (R := fun y => SentR ab n (4 + 2 * k) gb (w.heap.size + 1) A sb T' x3 y ∧ ResAt y (w.heap.size + 1) 0 0 ⟨#[]⟩ noL) _ x3 hr3.lt c3 hm3 hacc3 hz3 ?_ (fun y hy => hy.2) (Below.refl _ _).drew rfl rfl rfl rfl ?_
 ·intro tb pb base x hx hT htb hpb hwb
  refine (deliver_done (T' := T') (k := k) (rg := rg) (ro := ro) fr tt val gas data x hT hg hcs (fun jd => HC.out tb jd) hlo hn (by simp [T0])).mono ?_
  rintro e y ⟨h1, h2⟩
  have h3 := sentR_of (gb := gb) (b := w.heap.size + 1) hx hacc3 htb hpb hwb h2
  refine ⟨h1, h3, ?_⟩
  obtain ⟨V', S2, _, _, q1, q2, _⟩ := h3
  refine hs3.kb q1 fun hm => ?_
  obtain ⟨⟨h0, _⟩, _⟩ := hs3
  obtain ⟨es, cl, q3⟩ := hacc3.isMap (q2 _ hm)
  simp [World.cell?, q3] at h0
 rintro x z4 ⟨y, ⟨hR, hRs⟩, rfl⟩ -
 obtain ⟨V', S2, q1, q2, q3, q4, q5, q6⟩ := hR
 have hry := q3.row hr3 (fun hm => hnotA _ _ _ _ hr3 _ (q4 _ hm) rfl)
 have hbg : w.heap.size + 1 ≠ gb := by omega
 have hkp : Kb [w.heap.size + 1] y (putR y (w.heap.size + 1) 0 rg ro noL) := putR_kb (Kb.refl _ y) (Or.inl (by simp))
 have hrp := hkp.row hry (by simp; omega)
 have hbl : w.heap.size + 1 < x3.heap.size := lt_cell hs3.1.1
 have hnb : ∀ k ∈ [w.heap.size + 1], ¬ Afoot ab T'.acc V'.sb k := fun k hk hf => by
  obtain rfl : k = w.heap.size + 1 := by simpa using hk
  obtain ⟨es, cl, q7⟩ := q1.isMap hf
  have h0 := hRs.1.1
  simp [World.cell?, q7] at h0
 have hap := q1.kb hkp hnb
 have hzp := q5.kb hkp (by simp)
 obtain ⟨⟨y0, y1, y2, y3⟩, _⟩ := hRs.put (st := 0) (gs := rg) (out := ro) (lv := noL)
 generalize putR y (w.heap.size + 1) 0 rg ro noL = z at *
 have u0 := hrp.cell (i := 0) (by decide)
 have uz := hrp.frozen 0
 simp only [if_true] at u0
 have HHA : Hid (∃ n' sb', HostAt gb ab n' T'.acc sb' (z.setCell ⟨gb, 0, none⟩ (.int .i32 0)) ∧ n' ≤ n + (4 + 2 * k)) := by
  have hkz : Kb [gb] z (z.setCell ⟨gb, 0, none⟩ (.int .i32 0)) := (Kb.refl [gb] z).setCell (Or.inl (by simp)) _
  refine ⟨V'.n, V'.sb, ⟨?_, hap.kb hkz (fun k hk hf => row_map_ne hrp (hap.isMap hf) (List.mem_singleton.1 hk).symm), hzp.kb hkz (fun hm => ?_)⟩, q2⟩
  ·refine (hrp.set 0 (.int .i32 0)).congr fun i hi => ?_
   by_cases e : i = 0
   ·subst e; rfl
   ·simp only [if_neg e]
  ·have e : (0 : Nat) = gb := by simpa using hm
   rw [← e, hzp.1.1] at u0
   cases u0
 have HZC : Hid ((z.setCell ⟨gb, 0, none⟩ (.int .i32 0)).cell? ⟨w.heap.size + 1, 0, none⟩ = some (.int .u8 0) ∧ (z.setCell ⟨gb, 0, none⟩ (.int .i32 0)).cell? ⟨w.heap.size + 1, 1, none⟩ = some (.int .i64 (rg : Int)) ∧ (z.setCell ⟨gb, 0, none⟩ (.int .i32 0)).cell? ⟨w.heap.size + 1, 2, none⟩ = some (.string ro) ∧ (z.setCell ⟨gb, 0, none⟩ (.int .i32 0)).cell? ⟨w.heap.size + 1, 3, none⟩ = some noL) := by
  have hkz : Kb [gb] z (z.setCell ⟨gb, 0, none⟩ (.int .i32 0)) := (Kb.refl [gb] z).setCell (Or.inl (by simp)) _
  have e := hkz.block (w.heap.size + 1) (lt_cell y0) (by simp; omega)
  exact ⟨(World.cell?_of_block e).trans y0, (World.cell?_of_block e).trans y1, (World.cell?_of_block e).trans y2, (World.cell?_of_block e).trans y3⟩
 have HKB : Hid (∃ S2, Kb (gb :: S2) w (z.setCell ⟨gb, 0, none⟩ (.int .i32 0)) ∧ ∀ k ∈ S2, Afoot ab A sb k) := by
  have hkz : Kb [gb] z (z.setCell ⟨gb, 0, none⟩ (.int .i32 0)) := (Kb.refl [gb] z).setCell (Or.inl (by simp)) _
  have b1 : Kb (gb :: S2) w w1 := Kb.of_below HX.out.1
  have b2 := b1.trans hk2 (fun i hi => Or.inl (by simp at hi; simp [hi]))
  have b3 := b2.trans (Kb.of_below (S := []) hx3) (by simp)
  have b4 := b3.trans q3 (fun i hi => Or.inl (List.mem_cons_of_mem _ hi))
  have b5 := b4.trans hkp (fun i hi => Or.inr (by simp at hi; omega))
  exact ⟨S2, b5.trans hkz (fun i hi => Or.inl (by simp at hi; simp [hi])), q4⟩
 clear hap hzp hrp hnb hkp hry q1 q2 q3 q4 q5 q6 hRs y0 y1 y2 y3
 simp only [fill, List.foldl_cons, List.foldl_nil, Act.put]
 simp only [List.setIfInBounds_toArray, List.set_cons_zero, List.set_cons_succ]
 go_wp2
 refine leaves_cons (f := 32) (args := #[.pointer (some ⟨gb, 0, none⟩)]) (by simp) (by simp [go_sem]) ?_
 refine (unlock_deferred muLib ⟨gb, 0, none⟩ .returning z u0 uz).mono ?_
 rintro e u' w'' ⟨rfl, rfl, rfl⟩
 obtain ⟨k0, k1, k2, k3⟩ := HZC.out
 exact ⟨.tuple #[resV 0 rg ro noL, .int .i64 0], by simp [results, Tryz.results13, go_sem, k0, k1, k2, k3], rfl, HHA.out, HKB.out⟩
end
section
open Go.RowKit Go.Maps
set_option maxRecDepth 100000
def paidF (F : FS) (c : Nat) : FS := { onF F with gas := F.gas - c }
theorem To2.m2 {base fb tb m : Nat} {F' : FS} {T T' : TS} {V : TV} {S : List Nat} {w w' : World} (h : To2 base fb tb F' T T' V S m w w') (hm : m ≤ 2) : To2 base fb tb F' T T' V S 2 w w' := by
 obtain ⟨S', sv', mv', V', h1, h2, h3, h4, h5, h6⟩ := h
 exact ⟨S', sv', mv', V', h1, h2, h3, h4, by omega, h6⟩
theorem step_own {F F' : FS} {T : TS} {c : Nat} (hnx : F.nx ≤ 1000000) (hcs : F.code.size ≤ 1000) (hc : costN (opF F) = some c) (hcl : c ≤ 1000) (hpay : c ≤ F.gas) (ht : F'.trail = F.trail)
  (hdo : ∀ base fb S sv mv x, Fr base fb (paidF F c) S sv mv x → Calls Tryz.prog 205 #[.pointer (some ⟨fb, 0, none⟩), .int .u8 (opF F : Int)] x (Out (some ((), F')) unitV base fb S x)) : StepTo F T (some (F', T)) := by
 intro base fb tb S sv mv V w h hn
 refine step_of w h hnx hcs hc hcl hpay fun S1 sv1 mv1 x hx => ?_
 refine (hdo base fb S1 sv1 mv1 x hx.fr).mono fun e y ho => ?_
 exact ⟨ho.1, (hx.lift (show F'.trail = (paidF F c).trail from ht) ho.2).m2 (by omega)⟩
theorem plain_out {r : Option (Unit × FS)} {base fb : Nat} {S : List Nat} {w : World} : PlnP (Out r unitV base fb S w) := fun e w' h => by
 cases r with
 | none => exact Or.inr h.1
 | some y => obtain ⟨⟨⟩, F⟩ := y; exact Or.inl h.1
theorem step_push {F F' : FS} {T : TS} {n : Nat} (hnx : F.nx ≤ 90000) (hcs : F.code.size ≤ 1000) (hop : opF F = 95 + n) (hn : n ≤ 32) (hpay : 3 ≤ F.gas) (ht : F'.trail = F.trail) (he : pushBytesF n (paidF F 3) = some ((), F')) : StepTo F T (some (F', T)) := by
 have hc : costN (opF F) = some 3 := by
  rw [hop]
  unfold costN costRow
  rw [if_neg (by omega), if_neg (by omega), if_neg (by omega), if_neg (by omega), if_neg (by omega), if_neg (by omega), if_neg (by omega), if_neg (by omega), if_neg (by unfold opN; simp; omega), if_pos (by unfold pushN; simp; omega)]
 refine step_own (by omega) hcs hc (by omega) hpay ht fun base fb S sv mv x h => ?_
 rw [hop]
 refine do_push fb (95 + n) (by omega) (by omega) x plain_out ?_
 rw [show 95 + n - 95 = n by omega, ← he]
 exact pushBytes_I n hn (by exact hcs) (by show F.nx + 1 ≤ _; omega) x h
theorem step_oper {F F' : FS} {T : TS} {op c : Nat} (hnx : F.nx ≤ 90000) (hcs : F.code.size ≤ 1000) (hop : opF F = op) (ho : opN op = true) (hc : costN op = some c) (hcl : c ≤ 1000) (hpay : c ≤ F.gas) (ht : F'.trail = F.trail) (he : operF op (paidF F c) = some ((), F')) : StepTo F T (some (F', T)) := by
 have hb : op ≤ 255 := by
  unfold opN at ho
  simp at ho
  omega
 refine step_own (by omega) hcs (by rw [hop]; exact hc) hcl hpay ht fun base fb S sv mv x h => ?_
 rw [hop]
 refine do_oper fb op hb ho x plain_out ?_
 rw [← he]
 exact operate_I op hb x h
theorem step_jump {F F' : FS} {T : TS} (hnx : F.nx ≤ 90000) (hcs : F.code.size ≤ 1000) (hop : opF F = 86) (hpay : 8 ≤ F.gas) (ht : F'.trail = F.trail) (he : jumpP (paidF F 8) = some ((), F')) : StepTo F T (some (F', T)) := by
 refine step_own (by omega) hcs (c := 8) (by rw [hop]; rfl) (by omega) hpay ht fun base fb S sv mv x h => ?_
 rw [hop]
 refine do_keep fb 86 (by omega) (by omega) x plain_out ?_
 rw [← he]
 exact keep_86 (by show F.code.size ≤ _; omega) x h
theorem step_dest {F : FS} {T : TS} (hnx : F.nx ≤ 90000) (hcs : F.code.size ≤ 1000) (hop : opF F = 91) (hpay : 1 ≤ F.gas) : StepTo F T (some (paidF F 1, T)) := by
 refine step_own (by omega) hcs (c := 1) (by rw [hop]; rfl) (by omega) hpay rfl fun base fb S sv mv x h => ?_
 rw [hop]
 refine do_keep fb 91 (by omega) (by omega) x plain_out ?_
 refine (keep_91 fb x).mono ?_
 rintro e y ⟨h1, rfl⟩
 exact ⟨h1, h.to⟩
theorem step_mstore {F F' : FS} {T : TS} (hnx : F.nx ≤ 90000) (hcs : F.code.size ≤ 1000) (hop : opF F = 82) (hpay : 3 ≤ F.gas) (ht : F'.trail = F.trail) (he : storeWordF (paidF F 3) = some ((), F')) : StepTo F T (some (F', T)) := by
 refine step_own (by omega) hcs (c := 3) (by rw [hop]; rfl) (by omega) hpay ht fun base fb S sv mv x h => ?_
 rw [hop]
 refine do_keep fb 82 (by omega) (by omega) x plain_out ?_
 refine keep_82 fb x plain_out ?_
 rw [← he]
 exact storeWord_I x h
theorem step_return {F F' : FS} {T : TS} (hnx : F.nx ≤ 90000) (hcs : F.code.size ≤ 1000) (hop : opF F = 243) (ht : F'.trail = F.trail) (he : endF 243 (paidF F 0) = some ((), F')) : StepTo F T (some (F', T)) := by
 refine step_own (by omega) hcs (c := 0) (by rw [hop]; rfl) (by omega) (Nat.zero_le _) ht fun base fb S sv mv x h => ?_
 rw [hop]
 refine do_end fb 243 (by omega) x plain_out ?_
 rw [← he]
 exact doEnd_ret 243 (by omega) x h
theorem step_sload {F F' : FS} {T : TS} (hnx : F.nx ≤ 90000) (hcs : F.code.size ≤ 1000) (hop : opF F = 84) (hpay : 100 ≤ F.gas) (ht : F'.trail = F.trail) (he : loadF 1 (paidF F 100) T = some ((), F')) : StepTo F T (some (F', T)) := by
 intro base fb tb S sv mv V w h hn
 refine step_of w h (by omega) hcs (c := 100) (by rw [hop]; rfl) (by omega) hpay fun S1 sv1 mv1 x hx => ?_
 rw [hop]
 refine do_keep fb 84 (by omega) (by omega) x plain_out2 ?_
 refine keep_84 fb x plain_out2 ?_
 refine (load_of 1 x hx (fun y hy => get_lasting _ _ y hy)).mono fun e y ho => ?_
 change Out (loadF 1 (paidF F 100) T) unitV base fb S1 x e y at ho
 rw [he] at ho
 exact ⟨ho.1, (hx.lift (show F'.trail = (paidF F 100).trail from ht) ho.2).m2 (by omega)⟩
theorem step_sstore {F F' : FS} {T T' : TS} (hnx : F.nx ≤ 90000) (hcs : F.code.size ≤ 1000) (hop : opF F = 85) (hpay : 200 ≤ F.gas) (hch : T.ch.length < 1000000000) (he : storeF 1 (paidF F 200) T = some (F', T')) : StepTo F T (some (F', T')) := by
 intro base fb tb S sv mv V w h hn
 refine step_of w h (by omega) hcs (c := 200) (by rw [hop]; rfl) (by omega) hpay fun S1 sv1 mv1 x hx => ?_
 rw [hop]
 refine do_keep fb 85 (by omega) (by omega) x plain_out2 ?_
 refine keep_85 fb x plain_out2 ?_
 rw [← he]
 exact store_of 1 x hx (fun key v y hy => set_lasting _ key v y hy hch (by omega))
end
section
open Go.RowKit
set_option maxHeartbeats 8000000
set_option maxRecDepth 100000
theorem u8_cells : Tryz.prog.cellsOf 5 = 1 := by kernel_rfl
theorem u8_info : (Tryz.prog.info? 5).map (·.size) = some 1 := by kernel_rfl
theorem ty_u8s : Tryz.prog.underlying 26 = some (.slice 5) := by kernel_rfl
theorem ty_pu8 : Tryz.prog.underlying 253 = some (.pointer 5) := by kernel_rfl
theorem sclone_some (s : ByteArray) (h0 : s.size ≠ 0) (hs : s.size ≤ 100000) (w : World) : Calls Tryz.prog 146 #[.string s] w fun e w' => e = .returned (.string s) ∧ Below w.heap.size w w' := by
 have hmk := make_bytes s.size (by omega)
 have hZs : (madeCells #[Value.int .u8 0] s.size).size = s.size := by simp [size_madeCells]
 generalize madeCells #[Value.int .u8 0] s.size = Z at *
 have hcp := Lib.run_copy_row_string (P := Tryz.prog) (w.alloc (.cells Z 5)) 26 9 3 5 w.heap.size 0 s.size s.size s Z 5 ty_u8s u8_info (heap_alloc_new w _) (Nat.le_refl _) (by omega)
 have hrow : (Z.toList.take 0 ++ Lib.byteCells s.data.toList ++ Z.toList.drop (0 + s.size)).toArray = (Lib.byteCells s.data.toList).toArray := by
  rw [List.take_zero, List.nil_append, List.drop_of_length_le (by rw [Array.length_toList]; omega), List.append_nil]
 rw [hrow] at hcp
 have hbl : (Lib.byteCells s.data.toList).toArray.size = s.size := by rw [List.size_toArray, Lib.byteCells_length, ← Lib.size_eq]
 have hg := setRow_heap (w.alloc (.cells Z 5)) w.heap.size Z (Lib.byteCells s.data.toList).toArray 5 (0, 0) (heap_alloc_new w _)
 have hus := Lib.run_unsafeString_row (P := Tryz.prog) ((w.alloc (.cells Z 5)).setRow w.heap.size (Lib.byteCells s.data.toList).toArray) 253 3 9 5 ty_pu8 u8_cells w.heap.size (Lib.byteCells s.data.toList).toArray.size (by unfold World.shape?; rw [hg]) s.data.toList (fun e => h0 (by rw [Lib.size_eq, e]; rfl)) (by rw [← Lib.size_eq]; omega) (by rw [← Lib.size_eq]; omega)
  (fun j x hx => Lib.cells_of_row hg (Lib.byteCells s.data.toList).toArray.size j _ (by rw [List.take_of_length_le (by simp)]; simp [Lib.byteCells, hx]))
 rw [← Lib.size_eq] at hus
 have hB : Below w.heap.size w ((w.alloc (.cells Z 5)).setRow w.heap.size (Lib.byteCells s.data.toList).toArray) := (bal (Below.refl _ w) _).trans ⟨rfl, rfl, rfl, by simp, fun k hk => setRow_other _ _ _ _ (by omega)⟩
 have HB := hid_of (Lib.below_freeze hB (p := ⟨w.heap.size, 0, none⟩) (Nat.le_refl _) s.size)
 have d0 : ((s.size : Int) == 0) = false := by rw [beq_eq_false_iff_ne]; omega
 clear hB hg hrow
 generalize (Lib.byteCells s.data.toList).toArray = Y at *
 go_enter Tryz.func146, Tryz.ntmps146
 go_wp2
 go_ret
 exact ⟨rfl, HB.out⟩
theorem clone_any (s : ByteArray) (hs : s.size ≤ 100000) (w : World) : Calls Tryz.prog 82 #[.string s] w fun e w' => e = .returned (.string s) ∧ Below w.heap.size w w' := by
 have HC : Hid (Calls Tryz.prog 146 #[.string s] w fun e w' => e = .returned (.string s) ∧ Below w.heap.size w w') := by
  by_cases h0 : s.size = 0
  ·obtain rfl : s = ⟨#[]⟩ := ByteArray.ext (Array.eq_empty_of_size_eq_zero h0)
   show Calls _ _ _ _ _
   go_enter Tryz.func146, Tryz.ntmps146
   go_wp2
   go_ret
   exact ⟨rfl, Below.refl _ _⟩
  ·exact sclone_some s h0 hs w
 go_enter Tryz.func82, Tryz.ntmps82
 go_wp2_with fail
 refine HC.out.mono ?_
 rintro e w1 ⟨rfl, hb⟩
 have HB := hid_of hb
 clear hb HC
 go_wp2
 go_ret
 exact ⟨rfl, HB.out⟩
end
section
open Go.RowKit Go.Maps
set_option maxHeartbeats 8000000
set_option maxRecDepth 100000
abbrev acctC (at' bal : Nat) (code : ByteArray) : Array Value := #[.int .u64 (limb at' 0), .int .u64 (limb at' 1), .int .u64 (limb at' 2), .int .u64 (limb at' 3), .int .u64 (limb bal 0), .int .u64 (limb bal 1), .int .u64 (limb bal 2), .int .u64 (limb bal 3), .string code, .slice none 0 0]
def AcctAt (x : World) (b at' bal : Nat) (code : ByteArray) : Prop := x.rowIs b 34 10 (fun i => (acctC at' bal code).getD i undef)
theorem areRight_nil (w : World) : Calls Tryz.prog 80 #[.slice none 0 0] w fun e w' => e = .returned (.bool true) ∧ w' = w := by
 go_enter Tryz.func80, Tryz.ntmps80
 go_wp2
 go_loopw [10] (fun t10 wr => t10 = .int .i64 0 ∧ wr = w) (fun _ _ => 0)
 case atStart => exact ⟨rfl, rfl⟩
 case round =>
  obtain ⟨rfl, rfl⟩ := hrel
  go_wp2
  go_ret
  exact ⟨rfl, rfl⟩
theorem AcctAt.cells {x : World} {b at' bal : Nat} {code : ByteArray} (h : AcctAt x b at' bal code) : x.cell? ⟨b, 0, none⟩ = some (.int .u64 (limb at' 0)) ∧ x.cell? ⟨b, 1, none⟩ = some (.int .u64 (limb at' 1)) ∧ x.cell? ⟨b, 2, none⟩ = some (.int .u64 (limb at' 2)) ∧ x.cell? ⟨b, 3, none⟩ = some (.int .u64 (limb at' 3)) ∧ x.cell? ⟨b, 4, none⟩ = some (.int .u64 (limb bal 0)) ∧ x.cell? ⟨b, 5, none⟩ = some (.int .u64 (limb bal 1)) ∧ x.cell? ⟨b, 6, none⟩ = some (.int .u64 (limb bal 2)) ∧ x.cell? ⟨b, 7, none⟩ = some (.int .u64 (limb bal 3)) ∧ x.cell? ⟨b, 8, none⟩ = some (.string code) ∧ x.cell? ⟨b, 9, none⟩ = some (.slice none 0 0) :=
 ⟨h.cell (i := 0) (by decide), h.cell (i := 1) (by decide), h.cell (i := 2) (by decide), h.cell (i := 3) (by decide), h.cell (i := 4) (by decide), h.cell (i := 5) (by decide), h.cell (i := 6) (by decide), h.cell (i := 7) (by decide), h.cell (i := 8) (by decide), h.cell (i := 9) (by decide)⟩
theorem isRight_one (g at' bal : Nat) (code : ByteArray) (hc : code.size ≤ 1000) (w : World) (h : AcctAt w g at' bal code) : Calls Tryz.prog 55 #[.slice (some ⟨g, 0, none⟩) 1 1] w fun e w' => e = .returned (.bool true) ∧ Below w.heap.size w w' := by
 have HA := hid_of h
 have d1 : decide ((1000 : Int) < (code.size : Int)) = false := decide_eq_false (by omega)
 have HR := hid_of areRight_nil
 clear h
 go_enter Tryz.func55, Tryz.ntmps55
 go_wp2
 go_loopw [10] (fun t10 wr => ∃ k : Nat, k ≤ 1 ∧ t10 = .int .i64 (k : Int) ∧ Hid (Below w.heap.size w wr)) (fun t10 _ => (1 - intOf t10).toNat)
 case atStart => exact ⟨0, by omega, rfl, Below.refl _ _⟩
 case round =>
  obtain ⟨k, hk, rfl, HB⟩ := hrel
  by_cases h0 : k = 0
  ·subst h0
   obtain ⟨c0, c1, c2, c3, c4, c5, c6, c7, c8, c9⟩ := (show AcctAt wr g at' bal code from row_below HA.out HB.out).cells
   go_wp2
   go_quiet (fail)
   go_wp2_with (first | (go_at_call 80; refine (HR.out _).mono ?_; rintro e w9 ⟨rfl, rfl⟩) | fail)
   exact ⟨⟨1, by omega, rfl, below_drewN' (cin.bal HB.out _) _⟩, by simp [intOf]⟩
  ·obtain rfl : k = 1 := by omega
   go_wp2
   go_ret
   exact ⟨rfl, HB.out⟩
end
end cin
end Go.Proofs.YtohoajjdoihekaaGreatDoor
