/-
  Proved: for every list of codes and every list of messages, together of bulk at most 1048576, the call Keeps(codes, ms) returns true, and each argument reads afterwards as it read before. The bulk's bound is the given statement's own; the listed package-level variable is the one that the program's text lays (the tied card).
-/
import Derived.Test.YtohoajjdoihekaaGreatDoorKq
import Derived.Test.YtohoajjdoihekaaGreatDoorCards
import Derived.Test.YtohoajjdoihekaaGreatDoorTie
import Derived.ChangeMaps5
import Derived.SevenTiedAt
import Derived.Deep.DeepHandedRow
set_option linter.unusedVariables false
set_option linter.unusedSimpArgs false
namespace Go.Proofs.YtohoajjdoihekaaGreatDoor
open Go.ChangeShapes Go.WideShapes Go.ChangeAt Go.RowKit Go.ChangeMaps
namespace cin
theorem ownD : ownKnob Tryz.prog.godebug = none := by kernel_rfl
theorem door_met (os : Os) (args : Array Value) : laidMet Tryz.prog Rows.keepsUptoRow.laid ((World.doorLaid Tryz.prog 400 os).forCall (fun _ _ => 0) ⟨#[], args, []⟩).memory :=
 laidMet_of_run' 8 (by kernel_rfl) (by kernel_rfl)
theorem keeps (os : Os) {H : Type} (enc : TypeId × Value → H) : ∃ places, DataW.whole enc Tryz.prog ((World.doorLaid Tryz.prog 400 os).forCall (fun _ _ => 0) ⟨#[], #[.slice none 0 0, .slice none 0 0], []⟩).memory Tryz.f7.params.toList Rows.keepsSpec.vars false #[.slice none 0 0, .slice none 0 0].toList 8 = some ([.nil, .nil], [], places) :=
 ⟨[], by kernel_rfl⟩
theorem und_strs : Tryz.prog.underlying 25 = some (.slice 9) := by kernel_rfl
set_option maxRecDepth 100000 in
theorem open_codes {H : Type} {enc : TypeId × Value → H} {W : World} {base : Nat} {v : Value} {d : DataW H} {p : List MemPlace} (hv : Value.okWide Tryz.prog W .any base 25 v) (h : DataW.Trod enc Tryz.prog W 0 (fun _ => true) true 25 v d p) : ∃ cs, StrIn W v cs := by
 obtain ⟨a0, len0, cap0, rfl⟩ := okWide_slice und_strs hv
 obtain ⟨fuel, hf⟩ := h
 rcases open_strings und_strs ziE zeC hf with ⟨hcs, _⟩ | ⟨a, len, cap, ss, hcs, _, hl, hm, hz, _, hcell, _⟩
 ·rw [show Value.slice a0 len0 cap0 = .slice none 0 0 from (List.cons.inj hcs).1]
  exact ⟨[], none, 0, rfl, Or.inl rfl⟩
 ·rw [show Value.slice a0 len0 cap0 = .slice (some a) len cap from (List.cons.inj hcs).1]
  rw [if_pos rfl] at hz
  refine ⟨ss.take len, some a, cap, by rw [List.length_take, hz, Nat.min_eq_left hl], ?_⟩
  by_cases h0 : len = 0
  ·subst h0
   exact Or.inl rfl
  ·have hc0 := hcell 0 (by omega)
   have e0 : a.add 0 = a := by simp [Addr.add]
   rw [e0] at hc0
   have hb := zlw hc0
   have hs := World.cell?_spot hc0
   obtain ⟨g, o, f⟩ := a
   obtain rfl : f = none := hs
   refine Or.inr ⟨g, o, rfl, hb, fun i hi => ?_⟩
   rw [List.length_take, hz, Nat.min_eq_left hl] at hi
   have e : (⟨g, o, none⟩ : Addr).add i = ⟨g, o + i, none⟩ := by simp [Addr.add, eq_comm]
   have h9 := hcell i (by omega)
   rw [e] at h9
   have e2 : (ss.take len).getD i ByteArray.empty = ss.getD i ByteArray.empty := by rw [List.getD_eq_getElem?_getD, List.getD_eq_getElem?_getD, List.getElem?_take, if_pos hi]
   rw [e2]
   exact h9
set_option maxRecDepth 100000 in
theorem keeps_contract (H : Type) (enc : TypeId × Value → H) (W : World) (base : Nat) (args : Array Value) (ds gs : List (DataW H)) (before : List MemPlace)
  (hval : ∀ (j : Nat) t v, Tryz.f7.params[j]? = some t → args[j]? = some v → Value.okWide Tryz.prog W .any base t v)
  (hW : DataW.Whole enc Tryz.prog Tryz.f7.params.toList Rows.keepsSpec.vars false W args.toList ds gs before) (hz : Zr W) (hk : Rows.uptoSmall H (ds ++ gs) = true) :
  Calls Tryz.prog 7 args W fun e W' => ∃ v, e = .returned v ∧ Rows.keepsSpec.post enc Tryz.prog Tryz.f7 false true false false W args v W' := by
 have hW' := hW
 obtain ⟨p, q, hA0, hV, rfl, hfz, hnd⟩ := hW
 have hA : DataW.TrodAll enc Tryz.prog W 0 (fun _ => true) true Tryz.f7.params.toList args.toList ds p := hA0
 rw [Tryz.params7] at hA hval
 obtain ⟨v0, vs0, d0, ds0, p0, q0, hargs, rfl, rfl, h0, r0⟩ := trodAll_cons hA
 obtain ⟨v1, vs1, d1, ds1, p1, q1, rfl, rfl, rfl, h1, r1⟩ := trodAll_cons r0
 obtain ⟨rfl, rfl, rfl⟩ := trodAll_nil r1
 obtain rfl : args = #[v0, v1] := by cases args; simp_all
 obtain ⟨rfl, rfl⟩ := trodVars_none hV
 have lt0 : ∀ x ∈ p0, x.block < W.heap.size := by obtain ⟨m, hm⟩ := h0; exact DataW.trod_lt m _ _ _ hm
 have lt1 : ∀ x ∈ p1, x.block < W.heap.size := by obtain ⟨m, hm⟩ := h1; exact DataW.trod_lt m _ _ _ hm
 obtain ⟨cs, hcs⟩ := open_codes (hval 0 25 v0 rfl rfl) h0
 obtain ⟨ms, hms, hbk⟩ := zmx (hval 1 71 v1 rfl rfl) h1
 have hlen : ms.length ≤ 200000 := by
  have h9 := of_decide_eq_true hk
  simp only [Rows.uptoBulkAll, List.append_nil] at h9
  omega
 clear hA0
 refine (zmQ cs ms W hcs hms hlen hz).mono fun e W' ⟨he, bel⟩ => ?_
 subst he
 exact ⟨_, rfl, _, _, _, [], _, [], hW', trodAll_mk1 (shut_bool Tryz.underlying4 _), (trodAll_cons_mk (Below.trod zk7 (by kernel_rfl) (of_decide_eq_true (by kernel_rfl)) h0 bel lt0) (trodAll_cons_mk (Below.trod zk7 (by kernel_rfl) (of_decide_eq_true (by kernel_rfl)) h1 bel lt1) trodAll_mk0)), rfl, bel.frame _, fun h => by cases h⟩
set_option maxRecDepth 100000 in
theorem keeps_lifted (os : Os) (started : os.Started) (H : Type) (enc : TypeId × Value → H) (F : Stop.Interp) :
  ReturnsInHanded {} Tryz.checked os 7 .any ((Rows.OpenSpec.upto Rows.keepsSpec).preRow enc Tryz.prog Tryz.f7 Rows.keepsUptoRow.domain false Rows.keepsUptoRow.laid) (((Rows.OpenSpec.upto Rows.keepsSpec).at F).post enc Tryz.prog Tryz.f7 false true false false) := by
 obtain ⟨places, hx⟩ := keeps os enc
 refine returnsInHanded_of_row (C := Tryz.checked) (s := Rows.OpenSpec.upto Rows.keepsSpec) ownD started (by kernel_rfl) Tryz.func7
  (witness_row_at (enc := enc) (C := Tryz.checked) false (World.doorLaid Tryz.prog 400 os) #[.slice none 0 0, .slice none 0 0] rfl (by kernel_rfl) (by kernel_rfl) (by kernel_rfl)
   (OpenSpec.preRow_of_cond 8 hx (by kernel_rfl) (fun k hk => by cases hk; kernel_rfl) (by kernel_rfl) (door_met os _))) ?_
 intro W base args ds gs before hval hW _ hcond _ hL _ _
 exact keeps_contract H enc W base args ds gs before hval hW (zi3 hL) (hcond _ rfl)
theorem keeps_said : Rows.KeepsUptoSaid :=
 OpenClaim.holds_of_cond 7 Tryz.f7 rfl rfl rfl rfl rfl rfl rfl ⟨rfl, rfl, rfl, rfl, rfl⟩ rfl rfl rfl rfl rfl (by kernel_rfl) Tryz.func7 (by kernel_rfl)
  (of_decide_eq_true (by kernel_rfl)) (by unfold Func.isWrapper; first | (rw [if_pos (by decide +kernel)]; kernel_rfl) | (rw [if_neg (by decide +kernel)]; exact ⟨rfl, rfl⟩))
  (fun os started H enc _ F => by rw [OpenClaim.pre_eq_preRow]; exact keeps_lifted os started H enc F)
theorem plainK (f : FuncId) (fn : Func) (hf : Tryz.pinned.checked.prog.funcNamed "cinder/cinderkeep.Keeps" = some f) (hfn : Tryz.pinned.checked.prog.funcs[f]? = some fn) :
  false = Tryz.pinned.checked.prog.looks [] ∧ ∀ (j : Nat) t, fn.params[j]? = some t → Tryz.pinned.checked.prog.wantsStandIn t = false := by
 obtain rfl : f = 7 := Option.some.inj ((show Tryz.prog.funcNamed "cinder/cinderkeep.Keeps" = some 7 by kernel_rfl).symm.trans hf) |>.symm
 obtain rfl : fn = Tryz.f7 := (Option.some.inj (Tryz.func7.symm.trans hfn)).symm
 refine ⟨by kernel_rfl, fun j t ht => ?_⟩
 rw [Tryz.params7] at ht
 have hm : t = 25 ∨ t = 71 := by simpa using Array.mem_of_getElem? ht
 rcases hm with rfl | rfl
 ·exact (show Tryz.prog.wantsStandIn 25 = false by kernel_rfl)
 ·exact (show Tryz.prog.wantsStandIn 71 = false by kernel_rfl)
end cin
theorem keeps_card : Rows.KeepsUptoCardSaid :=
 Claim7.holds_tied_plain_at .later [] _ _ _ _ cin.keeps_said (fun _ h => by cases h) (by kernel_rfl) (fun _ h => by cases h) keepsUpto_row_tie rfl ⟨rfl, rfl⟩ (by kernel_rfl) rfl cin.plainK (by kernel_rfl)
#print axioms keeps_card
end Go.Proofs.YtohoajjdoihekaaGreatDoor
