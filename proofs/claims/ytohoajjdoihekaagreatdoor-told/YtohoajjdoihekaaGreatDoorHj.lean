import Derived.Test.YtohoajjdoihekaaGreatDoorHg
set_option linter.unusedVariables false
set_option linter.unusedSimpArgs false
namespace Go.Proofs.YtohoajjdoihekaaGreatDoor
namespace cin
open Go.RowKit Go.Proofs.Tryz Tryz
set_option maxRecDepth 100000
set_option maxHeartbeats 8000000
section
open Go.Maps
theorem yB:prog.underlying 89=some (.map 24 95):=by kernel_rfl
theorem Yq:prog.underlying 93=some (.map 24 24):=by kernel_rfl
abbrev accC (bal:Nat) (code:ByteArray) (sv:Value):Array Value:=#[.int .u64 (za bal 0),.int .u64 (za bal 1),.int .u64 (za bal 2),.int .u64 (za bal 3),.string code,sv]
abbrev Zx (bal:Nat) (code:ByteArray) (sv:Value):Value:=.agg (accC bal code sv)
abbrev ziY:Value:=.agg #[.int .u64 0,.int .u64 0,.int .u64 0,.int .u64 0,.string ⟨#[]⟩,.map none]
theorem yD (w:World):(zeroValue 95).run prog w=.ok ziY w:=by kernel_rfl
theorem zg6 (w:World):(zeroValue 24).run prog w=.ok (.agg #[.int .u64 0,.int .u64 0,.int .u64 0,.int .u64 0]) w:=by kernel_rfl
section
variable {ops:Array Oper} {rest:List Oper} {o:Oper} {a:Act} {Q:Exit->Act->World->Prop}
theorem Zm (w:World) (hg:o.guard=none) (m x v:Operand) (t:TypeId) (hop:o.op=Op.mapUpdate t m x v) (et:TypeId) (ht:prog.underlying t=some (.map 24 et)) (b n:Nat) (f:Nat->Option Value)
  (hm:a.eval m=.map (some b)) (hown:AM w b n f) (hn:n<maxLen) (k:Nat) (val:Value) (hx:a.eval x=wv k) (hv:a.eval v=val)
  (hK:∀w',AM w' b (n+1) (fun m=>if m%M=k%M then some val else f m)->w.mapTurned w' b->wpList prog ops Q rest (a.put o.dst undef) w'):
  wpList prog ops Q (o::rest) a w:=by
 refine wpList_plain hg fun K' hK'=> ?_
 obtain⟨w',hrun,r1,r2⟩:=hown.store ht hn k val;unfold Oper.wp;simp[execOp,hop,hm,hx,hv,hrun,Result.andThen];exact hK' _ _ (hK w' r1 r2)
theorem Z8 (w:World) (hg:o.guard=none) (m x:Operand) (t:TypeId) (hop:o.op=Op.call {callee:=Callee.builtin Builtin.delete,args:=#[m,x],argTypes:=#[t,24]}) (et:TypeId) (ht:prog.underlying t=some (.map 24 et)) (b n:Nat) (f:Nat->Option Value)
  (hm:a.eval m=.map (some b)) (hown:AM w b n f) (k:Nat) (hx:a.eval x=wv k)
  (hK:∀w',AM w' b n (fun m=>if m%M=k%M then none else f m)->w.mapTurned w' b->wpList prog ops Q rest (a.put o.dst (.tuple #[])) w'):
  wpList prog ops Q (o::rest) a w:=by
 refine wpList_plain hg fun K' hK'=> ?_
 obtain⟨w',hrun,r1,r2⟩:=hown.drop ht k o.type;unfold Oper.wp;simp[execOp,hop,resolve,invoke,builtin,hm,hx,hrun,Result.andThen];exact hK' _ _ (hK w' r1 r2)
end
theorem ZU {x y:World} {b:Nat} (h:x.mapTurned y b):Kb [b] x y:=by
 obtain⟨h1,h2,h3,h4,h5⟩:=zjF h;exact⟨h1,h2,h3,h4,fun k hk hn=>h5 k hk (by simpa using hn)⟩
theorem AM.kb {S:List Nat} {x y:World} {b n:Nat} {f:Nat->Option Value} (h:AM x b n f) (hk:Kb S x y) (hb:b∉S):AM y b n f:=h.block (hk.block b h.lt hb)
def NoSlots (w:World) (sv:Value):Prop:=sv=.map none\/∃b n f,sv=.map (some b)/\AM w b n f/\∀m,f m=none
def SomeSlots (w:World) (sv:Value):Prop:=∃b n f,sv=.map (some b)/\n<9223372036854775807/\AM w b n f/\¬∀m,f m=none
theorem zdC (s:ByteArray):s.toList.isEmpty=decide (s=⟨#[]⟩):=by
 rw[Go.ByteArray.toList_eq,Bool.eq_iff_iff,decide_eq_true_eq,List.isEmpty_iff];constructor
 ·intro h;cases s with
  |mk d=>exact congrArg ByteArray.mk (by simpa using h)
 ·intro h;rw[h]
theorem zjv {w:World} {sv:Value} (h:NoSlots w sv) (ty:TypeId):(Builtin.len_ #[93] ty #[sv]).run prog w=.ok (.int .i64 0) w:=by
 rcases h with rfl|⟨b,n,f,rfl,h,hf⟩
 ·exact Maps.len_nil Yq ty
 ·obtain⟨s,hr,_,hs⟩:=h.len Yq ty;rw[hr,hs.2 hf];rfl
theorem zil {w:World} {sv:Value} (h:SomeSlots w sv) (ty:TypeId):∃s:Nat,(Builtin.len_ #[93] ty #[sv]).run prog w=.ok (.int .i64 (s:Int)) w/\((s:Int)==0)=false:=by
 obtain⟨b,n,f,rfl,hn,h,hf⟩:=h;obtain⟨s,hr,_,hs⟩:=h.len Yq ty;refine⟨s,hr, ?_⟩;have:s≠0:=fun e=>hf (hs.1 e)
 simp[this]
theorem zhd {n:Nat} (h:n%M=0):eqw n 0=true:=by unfold eqw;rw[h];rfl
theorem eqz_f {n:Nat} (h:n%M≠0):eqw n 0=false:=by unfold eqw;exact decide_eq_false (by simpa using h)
abbrev putW (w:World) (at' amt:Nat) (code:ByteArray) (sv:Value):World:=(w.alloc (wc at')).alloc (.cells (accC amt code sv) 95)
theorem zag (w:World) (at' amt:Nat) (code:ByteArray) (sv:Value):Below w.heap.size w (putW w at' amt code sv):=bal (bal (Below.refl _ w) _) _
def Zr (w:World):Prop:=(w.cell? ⟨0,0,none⟩=some (.int .u64 0)/\w.cell? ⟨0,1,none⟩=some (.int .u64 0)/\w.cell? ⟨0,2,none⟩=some (.int .u64 0)/\w.cell? ⟨0,3,none⟩=some (.int .u64 0))/\0<w.heap.size
theorem Zr.kb {S:List Nat} {w w':World} (h:Zr w) (hk:Kb S w w') (h0:0∉S):Zr w':=by
 have e:=hk.block 0 h.2 h0;obtain⟨⟨z0,z1,z2,z3⟩,z4⟩:=h;exact⟨⟨(World.cell?_of_block (w:=w) e).trans z0,(World.cell?_of_block (w:=w) e).trans z1,(World.cell?_of_block (w:=w) e).trans z2,(World.cell?_of_block (w:=w) e).trans z3⟩,Nat.lt_of_lt_of_le z4 hk.size⟩
theorem Zr.below {w w':World} (h:Zr w) (hk:Below w.heap.size w w'):Zr w':=h.kb (Kb.of_below (S:=[]) hk) (by simp)
theorem NoSlots.kb {S:List Nat} {w w':World} {sv:Value} (h:NoSlots w sv) (hk:Kb S w w') (hS:∀k,sv=.map (some k)->k∉S):NoSlots w' sv:=by
 rcases h with rfl|⟨b,n,f,rfl,h,hf⟩
 ·exact Or.inl rfl
 ·exact Or.inr ⟨b,n,f,rfl,h.kb hk (hS b rfl),hf⟩
theorem SomeSlots.kb {S:List Nat} {w w':World} {sv:Value} (h:SomeSlots w sv) (hk:Kb S w w') (hS:∀k,sv=.map (some k)->k∉S):SomeSlots w' sv:=by
 obtain⟨b,n,f,rfl,hn,h,hf⟩:=h;exact⟨b,n,f,rfl,hn,h.kb hk (hS b rfl),hf⟩
theorem emp_t:(⟨#[]⟩:ByteArray).toList.isEmpty=true:=by rw[zdC];simp
theorem emp_f {s:ByteArray} (h:s≠⟨#[]⟩):s.toList.isEmpty=false:=by rw[zdC];simpa using h
theorem zlX {b n:Nat} {f:Nat->Option Value} (at' amt:Nat) (sv:Value) (w:World) (h:AM w b n f) (hb:amt%M=0) (hs:NoSlots w sv) (hz:Zr w):
  Calls prog 81 #[.map (some b),wv at',Zx amt ⟨#[]⟩ sv] w fun e w'=>e=.returned (.tuple #[])/\AM w' b n (fun m=>if m%M=at'%M then none else f m)/\Kb [b] w w':=by
 have hB:=zag w at' amt ⟨#[]⟩ sv;have HA:Hid (AM (putW w at' amt ⟨#[]⟩ sv) b n f):=h.kb (Kb.of_below (S:=[]) hB) (by simp);obtain⟨⟨z0,z1,z2,z3⟩,_⟩:=hz.below hB;have hl:=zjv (hs.kb (Kb.of_below (S:=[]) hB) (by simp));have hez:=yl amt;rw[zhd hb] at hez;have HB:=ze hB;have he:=emp_t;clear h hb hs hz hB;go_enter func81,ntmps81;go_wp2_with (first|(at_delete;refine Z8 _ rfl _ _ 89 rfl _ yB b n f rfl HA.out at' rfl ?_;intro w1 hA hT)|go_in)
 go_wp2;refine bodyPost_ret (results_none rfl _ _ _) rfl ?_;exact⟨rfl,hA,(Kb.of_below HB.out).trans (ZU hT) (by simp)⟩
theorem put_bal {b n:Nat} {f:Nat->Option Value} (at' amt:Nat) (code:ByteArray) (sv:Value) (w:World) (h:AM w b n f) (hn:n<maxLen) (hb:amt%M≠0) (hz:Zr w):
  Calls prog 81 #[.map (some b),wv at',Zx amt code sv] w fun e w'=>e=.returned (.tuple #[])/\AM w' b (n+1) (fun m=>if m%M=at'%M then some (Zx amt code sv) else f m)/\Kb [b] w w':=by
 have hB:=zag w at' amt code sv;have HA:Hid (AM (putW w at' amt code sv) b n f):=h.kb (Kb.of_below (S:=[]) hB) (by simp);obtain⟨⟨z0,z1,z2,z3⟩,_⟩:=hz.below hB;have hez:=yl amt;rw[eqz_f hb] at hez;have HB:=ze hB;have HN:=ze hn;clear h hb hz hB hn;go_enter func81,ntmps81;go_wp2_with (first|(at_mapUpdate;refine Zm _ rfl _ _ _ 89 rfl _ yB b n f rfl HA.out HN.out at' (Zx amt code sv) rfl rfl ?_;intro w1 hA hT)|go_in)
 go_wp2;go_end0;exact⟨rfl,hA,(Kb.of_below HB.out).trans (ZU hT) (by simp)⟩
theorem zmL {b n:Nat} {f:Nat->Option Value} (at' amt:Nat) (code:ByteArray) (sv:Value) (w:World) (h:AM w b n f) (hn:n<maxLen) (hb:amt%M=0) (hc:code≠⟨#[]⟩) (hz:Zr w):
  Calls prog 81 #[.map (some b),wv at',Zx amt code sv] w fun e w'=>e=.returned (.tuple #[])/\AM w' b (n+1) (fun m=>if m%M=at'%M then some (Zx amt code sv) else f m)/\Kb [b] w w':=by
 have hB:=zag w at' amt code sv;have HA:Hid (AM (putW w at' amt code sv) b n f):=h.kb (Kb.of_below (S:=[]) hB) (by simp);obtain⟨⟨z0,z1,z2,z3⟩,_⟩:=hz.below hB;have hez:=yl amt;rw[zhd hb] at hez;have he:=emp_f hc;have HB:=ze hB;have HN:=ze hn;clear h hb hz hB hn hc;go_enter func81,ntmps81;go_wp2_with (first|(at_mapUpdate;refine Zm _ rfl _ _ _ 89 rfl _ yB b n f rfl HA.out HN.out at' (Zx amt code sv) rfl rfl ?_;intro w1 hA hT)|go_in)
 go_wp2;go_end0;exact⟨rfl,hA,(Kb.of_below HB.out).trans (ZU hT) (by simp)⟩
theorem zjU {b n:Nat} {f:Nat->Option Value} (at' amt:Nat) (sv:Value) (w:World) (h:AM w b n f) (hn:n<maxLen) (hb:amt%M=0) (hs:SomeSlots w sv) (hz:Zr w):
  Calls prog 81 #[.map (some b),wv at',Zx amt ⟨#[]⟩ sv] w fun e w'=>e=.returned (.tuple #[])/\AM w' b (n+1) (fun m=>if m%M=at'%M then some (Zx amt ⟨#[]⟩ sv) else f m)/\Kb [b] w w':=by
 have hB:=zag w at' amt ⟨#[]⟩ sv;have HA:Hid (AM (putW w at' amt ⟨#[]⟩ sv) b n f):=h.kb (Kb.of_below (S:=[]) hB) (by simp);obtain⟨⟨z0,z1,z2,z3⟩,_⟩:=hz.below hB;obtain⟨s,hl,hs0⟩:=zil (hs.kb (Kb.of_below (S:=[]) hB) (by simp)) 3;have hez:=yl amt;rw[zhd hb] at hez;have he:=emp_t;have HB:=ze hB;have HN:=ze hn;clear h hb hz hB hn hs;go_enter func81,ntmps81;go_wp2_with (first|(at_mapUpdate;refine Zm _ rfl _ _ _ 89 rfl _ yB b n f rfl HA.out HN.out at' (Zx amt ⟨#[]⟩ sv) rfl rfl ?_;intro w1 hA hT)|go_in)
 go_wp2;go_end0;exact⟨rfl,hA,(Kb.of_below HB.out).trans (ZU hT) (by simp)⟩
end
section
open Go.Maps
structure Acc where
 bal:Nat
 code:ByteArray
 slots:Nat->Nat
def Acc.no (a:Acc):Prop:=a.bal%M=0/\a.code=⟨#[]⟩/\∀k,a.slots k%M=0
def ZB (s:Nat->Nat) (k:Nat):Option Value:=if s k%M=0 then none else some (wv (s k))
def SlotsOk (w:World) (n ab:Nat) (s:Nat->Nat) (v:Value):Prop:=(v=.map none/\∀k,s k%M=0)\/∃b,v=.map (some b)/\b≠ab/\AM w b n (ZB s)
theorem SlotsOk.kb {S:List Nat} {w w':World} {n m ab:Nat} {s:Nat->Nat} {v:Value} (h:SlotsOk w n ab s v) (hk:Kb S w w') (hS:∀k,v=.map (some k)->k∉S) (hm:n<=m):SlotsOk w' m ab s v:=by
 rcases h with h|⟨b,h1,h2,h3⟩
 ·exact Or.inl h
 ·exact Or.inr ⟨b,h1,h2,(h3.kb hk (hS b h1)).mono hm⟩
theorem SlotsOk.is {w:World} {n ab:Nat} {s:Nat->Nat} {v:Value} (h:SlotsOk w n ab s v):∃o,v=.map o:=by
 rcases h with⟨e,_⟩|⟨b,e,_⟩
 ·exact⟨_,e⟩
 ·exact⟨_,e⟩
structure AccsX (ab n:Nat) (A:Nat->Acc) (sb:Nat->Value) (at':Nat) (w:World):Prop where
 map:∃f,AM w ab n f/\∀m,m%M≠at'%M->((A m).no->f m=none)/\(¬(A m).no->f m=some (Zx (A m).bal (A m).code (sb m)))
 slot:∀m,m%M≠at'%M->¬(A m).no->SlotsOk w n ab (A m).slots (sb m)
 inj:∀m m' b,m%M≠at'%M->m'%M≠at'%M->¬(A m).no->¬(A m').no->sb m=.map (some b)->sb m'=.map (some b)->m%M=m'%M
 cong:∀m m',m%M=m'%M->A m=A m'/\sb m=sb m'
structure Accs (ab n:Nat) (A:Nat->Acc) (sb:Nat->Value) (w:World):Prop where
 map:∃f,AM w ab n f/\∀m,((A m).no->f m=none)/\(¬(A m).no->f m=some (Zx (A m).bal (A m).code (sb m)))
 slot:∀m,¬(A m).no->SlotsOk w n ab (A m).slots (sb m)
 inj:∀m m' b,¬(A m).no->¬(A m').no->sb m=.map (some b)->sb m'=.map (some b)->m%M=m'%M
 cong:∀m m',m%M=m'%M->A m=A m'/\sb m=sb m'
theorem Accs.x {ab n:Nat} {A:Nat->Acc} {sb:Nat->Value} {w:World} (h:Accs ab n A sb w) (at':Nat):AccsX ab n A sb at' w:=
 ⟨by obtain⟨f,h1,h2⟩:=h.map;exact⟨f,h1,fun m _=>h2 m⟩,fun m _=>h.slot m,fun m m' b _ _=>h.inj m m' b,h.cong⟩
def Za (ab:Nat) (A:Nat->Acc) (sb:Nat->Value) (k:Nat):Prop:=k=ab\/∃m,¬(A m).no/\sb m=.map (some k)
theorem Accs.kb {S:List Nat} {ab n:Nat} {A:Nat->Acc} {sb:Nat->Value} {w w':World} (h:Accs ab n A sb w) (hk:Kb S w w') (hS:∀k∈S,¬Za ab A sb k):Accs ab n A sb w':=by
 refine⟨?_,fun m hm=>(h.slot m hm).kb hk (fun k e hk=>hS k hk (Or.inr ⟨m,hm,e⟩)) (Nat.le_refl _),h.inj,h.cong⟩;obtain⟨f,h1,h2⟩:=h.map;exact⟨f,h1.kb hk (fun hk=>hS _ hk (Or.inl rfl)),h2⟩
theorem AccsX.kb {S:List Nat} {ab n at':Nat} {A:Nat->Acc} {sb:Nat->Value} {w w':World} (h:AccsX ab n A sb at' w) (hk:Kb S w w') (h1:ab∉S) (hS:∀m k,m%M≠at'%M->¬(A m).no->sb m=.map (some k)->k∉S):AccsX ab n A sb at' w':=by
 refine⟨?_,fun m ha hm=>(h.slot m ha hm).kb hk (fun k e=>hS m k ha hm e) (Nat.le_refl _),h.inj,h.cong⟩;obtain⟨f,h3,h2⟩:=h.map;exact⟨f,h3.kb hk h1,h2⟩
theorem Accs.lt {ab n:Nat} {A:Nat->Acc} {sb:Nat->Value} {w:World} (h:Accs ab n A sb w) {k:Nat} (hk:Za ab A sb k):k<w.heap.size:=by
 rcases hk with rfl|⟨m,h1,h2⟩
 ·obtain⟨f,h1,_⟩:=h.map;exact h1.lt
 ·rcases h.slot m h1 with⟨e,_⟩|⟨b,e,_,h3⟩
  ·rw[e] at h2;cases h2
  ·rw[e] at h2;injection h2 with h2;injection h2 with h2;subst h2;exact h3.lt
def Zd {α:Type} (A:Nat->α) (at':Nat) (a:α):Nat->α:=fun m=>if m%M=at'%M then a else A m
theorem yL {α:Type} {A:Nat->α} {at':Nat} {a:α} {m:Nat} (h:m%M=at'%M):Zd A at' a m=a:=if_pos h
theorem yk {α:Type} {A:Nat->α} {at':Nat} {a:α} {m:Nat} (h:m%M≠at'%M):Zd A at' a m=A m:=if_neg h
theorem zdA {α:Type} {A:Nat->α} (at':Nat) (a:α) {m m':Nat} (e:m%M=m'%M) (h:A m=A m'):Zd A at' a m=Zd A at' a m':=by
 unfold Zd;rw[e,h]
theorem AccsX.put {ab n at':Nat} {A:Nat->Acc} {sb:Nat->Value} {a:Acc} {sv:Value} {w w':World} {f':Nat->Option Value} (h:AccsX ab n A sb at' w) (hs:SlotsOk w n ab a.slots sv)
  (hd:∀m b,m%M≠at'%M->¬(A m).no->sb m=.map (some b)->sv≠.map (some b)) (hk:Kb [ab] w w') {f:Nat->Option Value} (hf:AM w ab n f) (hf':∀m,m%M≠at'%M->((A m).no->f m=none)/\(¬(A m).no->f m=some (Zx (A m).bal (A m).code (sb m))))
  (hm:AM w' ab (n+1) f') (hne:∀m,m%M≠at'%M->f' m=f m) (hat:∀m,m%M=at'%M->(a.no->f' m=none)/\(¬a.no->f' m=some (Zx a.bal a.code sv))):Accs ab (n+1) (Zd A at' a) (Zd sb at' sv) w':=by
 have nab:∀{s v b},SlotsOk w n ab s v->v=.map (some b)->b∉[ab]:=fun hs e=>by
  rcases hs with⟨e1,_⟩|⟨b,e1,hb,_⟩
  ·rw[e1] at e;cases e
  ·rw[e1] at e;injection e with e;injection e with e;subst e;simpa using hb
 refine⟨⟨f',hm,fun m=> ?_⟩,fun m hno=> ?_,fun m m' b h1 h2 e1 e2=> ?_,fun m m' e=>⟨zdA _ _ e (h.cong m m' e).1,zdA _ _ e (h.cong m m' e).2⟩⟩
 ·by_cases e:m%M=at'%M
  ·rw[yL e,yL e];exact hat m e
  ·rw[yk e,yk e,hne m e];exact hf' m e
 ·by_cases e:m%M=at'%M
  ·rw[yL e,yL e];exact hs.kb hk (fun k e2=>nab hs e2) (Nat.le_succ _)
  ·rw[yk e] at hno;rw[yk e,yk e];exact(h.slot m e hno).kb hk (fun k e2=>nab (h.slot m e hno) e2) (Nat.le_succ _)
 ·by_cases a1:m%M=at'%M
  ·by_cases a2:m'%M=at'%M
   ·rw[a1,a2]
   ·rw[yL a1] at e1;rw[yk a2] at e2 h2;exact absurd e1 (hd m' b a2 h2 e2)
  ·by_cases a2:m'%M=at'%M
   ·rw[yL a2] at e2;rw[yk a1] at e1 h1;exact absurd e2 (hd m b a1 h1 e1)
   ·rw[yk a1] at e1 h1;rw[yk a2] at e2 h2;exact h.inj m m' b a1 a2 h1 h2 e1 e2
theorem ze0 {ab n at':Nat} {A:Nat->Acc} {sb:Nat->Value} (a:Acc) (sv:Value) (w:World) (h:AccsX ab n A sb at' w) (hs:SlotsOk w n ab a.slots sv)
  (hd:∀m b,m%M≠at'%M->¬(A m).no->sb m=.map (some b)->sv≠.map (some b)) (hn:n<1000000000000) (hz:Zr w):
  Calls prog 81 #[.map (some ab),wv at',Zx a.bal a.code sv] w fun e w'=>e=.returned (.tuple #[])/\Accs ab (n+1) (Zd A at' a) (Zd sb at' sv) w'/\Kb [ab] w w':=by
 have hml:n<maxLen:=by unfold maxLen;omega
 obtain⟨f,hf,hf'⟩:=h.map
 have some':∀{e w'},¬a.no->(e=.returned (.tuple #[])/\AM w' ab (n+1) (fun m=>if m%M=at'%M then some (Zx a.bal a.code sv) else f m)/\Kb [ab] w w')->(e=Ending.returned (.tuple #[])/\Accs ab (n+1) (Zd A at' a) (Zd sb at' sv) w'/\Kb [ab] w w'):=by
  rintro e w' hno ⟨h1,h2,h3⟩;refine⟨h1,h.put hs hd h3 hf hf' h2 (fun m hm=>if_neg hm) (fun m hm=>⟨fun hc=>absurd hc hno,fun _=>if_pos hm⟩),h3⟩
 by_cases hb:a.bal%M=0
 ·by_cases hc:a.code=⟨#[]⟩
  ·by_cases hk:∀k,a.slots k%M=0
   ·have hns:NoSlots w sv:=by
     rcases hs with⟨e,_⟩|⟨b,e,_,h3⟩
     ·exact Or.inl e
     ·exact Or.inr ⟨b,n,_,e,h3,fun m=>if_pos (hk m)⟩
    rw[hc];refine(zlX at' a.bal sv w hf hb hns hz).mono ?_;rintro e w' ⟨h1,h2,h3⟩;exact⟨h1,h.put hs hd h3 hf hf' (h2.mono (Nat.le_succ _)) (fun m hm=>if_neg hm) (fun m hm=>⟨fun _=>if_pos hm,fun hc'=>absurd ⟨hb,hc,hk⟩ hc'⟩),h3⟩
   ·have hss:SomeSlots w sv:=by
     rcases hs with⟨e,h0⟩|⟨b,e,_,h3⟩
     ·exact absurd h0 hk
     ·refine⟨b,n,_,e,by omega,h3,fun h4=>hk fun k=> ?_⟩;have h5:=h4 k;unfold ZB at h5;split at h5
      ·assumption
      ·cases h5
    have hno:¬a.no:=fun h=>hk h.2.2
    have some'':=@some';rw[hc] at some''⊢;exact(zjU at' a.bal sv w hf hml hb hss hz).mono fun e w' h=>some'' hno h
  ·exact(zmL at' a.bal a.code sv w hf hml hb hc hz).mono fun e w' h=>some' (fun h=>hc h.2.1) h
 ·exact(put_bal at' a.bal a.code sv w hf hml hb hz).mono fun e w' h=>some' (fun h=>hb h.1) h
theorem zhH {a b:Nat} (h:a%M=b%M) {c:ByteArray} {s:Value}:Zx a c s=Zx b c s:=by
 have e:=yA h;injection e with e
 injection e with e
 injection e with h0 e
 injection e with h1 e
 injection e with h2 e
 injection e with h3 e
 unfold Zx accC;rw[h0,h1,h2,h3]
theorem AccsX.mono {ab n m at':Nat} {A:Nat->Acc} {sb:Nat->Value} {w:World} (h:AccsX ab n A sb at' w) (hn:n<=m):AccsX ab m A sb at' w:=
 ⟨by obtain⟨f,h1,h2⟩:=h.map;exact⟨f,h1.mono hn,h2⟩,fun k h1 h2=>(h.slot k h1 h2).kb (Kb.refl [] w) (by simp) hn,h.inj,h.cong⟩
theorem Accs.read {ab n:Nat} {A:Nat->Acc} {sb:Nat->Value} {w:World} (h:Accs ab n A sb w) (at':Nat) {f:Nat->Option Value} (hf:∀m,((A m).no->f m=none)/\(¬(A m).no->f m=some (Zx (A m).bal (A m).code (sb m)))):
  ∃sv,(f at').getD ziY=Zx (A at').bal (A at').code sv/\SlotsOk w n ab (A at').slots sv/\(∀m b,m%M≠at'%M->¬(A m).no->sb m=.map (some b)->sv≠.map (some b))/\(∀b,sv=.map (some b)->Za ab A sb b):=by
 by_cases hno:(A at').no
 ·refine⟨.map none, ?_,Or.inl ⟨rfl,hno.2.2⟩,fun m b _ _ _ e=>(by cases e),fun b e=>(by cases e)⟩;rw[(hf at').1 hno,hno.2.1,zhH (show(A at').bal%M=0%M from hno.1)];simp[Zx,accC,zl]
 ·refine⟨sb at', ?_,h.slot at' hno,fun m b hm hm2 e e2=>hm (h.inj m at' b hm2 hno e e2),fun b e=>Or.inr ⟨at',hno,e⟩⟩;rw[(hf at').2 hno];rfl
abbrev b2 (w:World) (a c:Nat):World:=(w.alloc (wc a)).alloc (wc c)
theorem zcE {ab n:Nat} {A:Nat->Acc} {sb:Nat->Value} (at' v:Nat) (w:World) (h:Accs ab n A sb w) (hn:n<1000000000000) (hz:Zr w):
  Calls prog 206 #[.map (some ab),wv at',wv v] w fun e w'=>e=.returned (.tuple #[])/\(∃sv,(∀b,sv=.map (some b)->Za ab A sb b)/\Accs ab (n+1) (Zd A at' {A at' with bal:=v}) (Zd sb at' sv) w')/\Kb [ab] w w':=by
 have hB:Below w.heap.size w (b2 w at' v):=bal (bal (Below.refl _ w) _) _;obtain⟨f,hf,hf'⟩:=h.map;obtain⟨sv,e1,e3,e4,e5⟩:=h.read at' hf';have hlk:=(hf.kb (Kb.of_below (S:=[]) hB) (by simp)).look yB yD at';rw[e1] at hlk
 have HP:Hid (∀x,Kb [] w x->Calls prog 81 #[.map (some ab),wv at',Zx v (A at').code sv] x fun e w'=>e=.returned (.tuple #[])/\Accs ab (n+1) (Zd A at' {A at' with bal:=v}) (Zd sb at' sv) w'/\Kb [ab] x w'):=fun x hx=>
  ze0 {A at' with bal:=v} sv x ((h.x at').kb hx (by simp) (by simp)) (e3.kb hx (by simp) (Nat.le_refl _)) e4 hn (hz.kb hx (by simp))
 have HE:=ze e5;obtain⟨o,rfl⟩:=e3.is;clear h hn hz hB hf hf' e1 e3 e4 e5;generalize(A at').bal=bl at*;generalize(A at').code=cd at*;go_enter func206,ntmps206;go_wp2_with fail
 have hk0:Kb [] w ((b2 w at' v).alloc (Obj.cells #[.int .u64 (za v 0),.int .u64 (za v 1),.int .u64 (za v 2),.int .u64 (za v 3),.string cd,.map o] 95)):=(((Kb.refl [] w).alloc _).alloc _).alloc _;refine(HP.out _ hk0).mono ?_;rintro e w1 ⟨rfl,hA,hK⟩;have HO:Hid ((∃sv,(∀b,sv=.map (some b)->Za ab A sb b)/\Accs ab (n+1) (Zd A at' {A at' with bal:=v}) (Zd sb at' sv) w1)/\Kb [ab] w w1):=⟨⟨_,HE.out,hA⟩,(hk0.mono (by simp)).trans hK (by simp)⟩;clear hA hK hk0 HP HE hlk;go_wp2;go_end0;exact⟨rfl,HO.out⟩
end
section
open Go.Maps
def Yn (s:Nat->Nat) (k v:Nat):Nat->Nat:=fun m=>if m%M=k%M then v else s m
theorem zdv (s:Nat->Nat) (k v:Nat) (hv:v%M≠0) (m:Nat):ZB (Yn s k v) m=if m%M=k%M then some (wv v) else ZB s m:=by
 unfold ZB Yn;by_cases e:m%M=k%M
 ·rw[if_pos e,if_pos e,if_neg hv]
 ·rw[if_neg e,if_neg e]
theorem zdT (s:Nat->Nat) (k v:Nat) (hv:v%M=0) (m:Nat):ZB (Yn s k v) m=if m%M=k%M then none else ZB s m:=by
 unfold ZB Yn;by_cases e:m%M=k%M
 ·rw[if_pos e,if_pos e,if_pos hv]
 ·rw[if_neg e,if_neg e]
abbrev b3 (w:World) (a c d:Nat):World:=((w.alloc (wc a)).alloc (wc c)).alloc (wc d)
abbrev b4 (w:World) (a c d bl:Nat) (cd:ByteArray) (o:Option Nat):World:=(b3 w a c d).alloc (.cells #[.int .u64 (za bl 0),.int .u64 (za bl 1),.int .u64 (za bl 2),.int .u64 (za bl 3),.string cd,.map o] 95)
theorem zdb (w:World) (a c d:Nat):Below w.heap.size w (b3 w a c d):=bal (bal (bal (Below.refl _ w) _) _) _
theorem zbK {ab n:Nat} {A:Nat->Acc} {sb:Nat->Value} {at':Nat} {s':Nat->Nat} {w:World} (h:Accs ab n A sb w) (hn:n<900000000000) (hz:Zr w) {x:World} {S:List Nat} {b:Nat} (hk:Kb S w x) (ha:AM x b (n+1) (ZB s')) (hS:∀k∈S,k=b) (hab:b≠ab) (h0:0≠b) (hot:∀m,m%M≠at'%M->¬(A m).no->sb m≠.map (some b)):
  Calls prog 81 #[.map (some ab),wv at',Zx (A at').bal (A at').code (.map (some b))] x fun e w'=>e=.returned (.tuple #[])/\Accs ab (n+2) (Zd A at' {A at' with slots:=s'}) (Zd sb at' (.map (some b))) w'/\Kb [ab] x w':=by
 have hx:=((h.x at').kb hk (fun hm=>hab (hS _ hm).symm) (fun m k hm hno e hk=>hot m hm hno (by rw[e,hS k hk]))).mono (Nat.le_succ n);exact ze0 {A at' with slots:=s'} (.map (some b)) x hx (Or.inr ⟨b,rfl,hab,ha⟩) (fun m k hm hno e e2=>hot m hm hno (e.trans e2.symm)) (by omega) (hz.kb hk (fun hm=>h0 (hS _ hm)))
theorem zl9 (w:World):(binOp .eql 93 (.map none) (.map none)).run prog w=.ok (.bool true) w:=by kernel_rfl
theorem zm4 (b:Nat) (w:World):(binOp .eql 93 (.map (some b)) (.map none)).run prog w=.ok (.bool false) w:=by kernel_rfl
theorem zaR {S:List Nat} {w x:World} {a c d bl:Nat} {cd:ByteArray} {o:Option Nat} (hk:Kb S (b4 w a c d bl cd o) x) (h1:w.heap.size∉S) (h2:w.heap.size+1+1+1∉S):
  (x.cell? ⟨w.heap.size,0,none⟩=some (.int .u64 (za a 0))/\x.cell? ⟨w.heap.size,1,none⟩=some (.int .u64 (za a 1))/\x.cell? ⟨w.heap.size,2,none⟩=some (.int .u64 (za a 2))/\x.cell? ⟨w.heap.size,3,none⟩=some (.int .u64 (za a 3)))/\
  (x.cell? ⟨w.heap.size+1+1+1,0,none⟩=some (.int .u64 (za bl 0))/\x.cell? ⟨w.heap.size+1+1+1,1,none⟩=some (.int .u64 (za bl 1))/\x.cell? ⟨w.heap.size+1+1+1,2,none⟩=some (.int .u64 (za bl 2))/\x.cell? ⟨w.heap.size+1+1+1,3,none⟩=some (.int .u64 (za bl 3))/\x.cell? ⟨w.heap.size+1+1+1,4,none⟩=some (.string cd)/\x.cell? ⟨w.heap.size+1+1+1,5,none⟩=some (.map o)):=by
 have q1:∀i,x.cell? ⟨w.heap.size,i,none⟩=(b4 w a c d bl cd o).cell? ⟨w.heap.size,i,none⟩:=fun i=>World.cell?_of_block (hk.block _ (by simp;omega) h1)
 have q2:∀i,x.cell? ⟨w.heap.size+1+1+1,i,none⟩=(b4 w a c d bl cd o).cell? ⟨w.heap.size+1+1+1,i,none⟩:=fun i=>World.cell?_of_block (hk.block _ (by simp) h2)
 simp only[q1,q2];simp[go_sem]
abbrev nwb (w:World):Nat:=w.heap.size+1+1+1+1
abbrev b5 (w:World) (a c d bl:Nat) (cd:ByteArray):World:=(b4 w a c d bl cd (some (nwb w))).alloc (.map #[] 0)
theorem b5_made (w:World) (a c d bl:Nat) (cd:ByteArray):AM (b5 w a c d bl cd) (nwb w) 0 (fun _=>none):=by
 have h:=AM.made (b4 w a c d bl cd (some (nwb w)));rw[show(b4 w a c d bl cd (some (nwb w))).heap.size=nwb w by simp[nwb]] at h;exact h
theorem b5_kb (S:List Nat) (w:World) (a c d bl:Nat) (cd:ByteArray):Kb S w (b5 w a c d bl cd):=(((((Kb.refl S w).alloc _).alloc _).alloc _).alloc _).alloc _
theorem zm3 {s:Nat->Nat} (h:∀k,s k%M=0) (m:Nat):ZB s m=none:=if_pos (h m)
theorem Accs.old {ab n:Nat} {A:Nat->Acc} {sb:Nat->Value} {w:World} (h:Accs ab n A sb w) {m b:Nat} (hno:¬(A m).no) (e:sb m=.map (some b)):b<w.heap.size:=h.lt (Or.inr ⟨m,hno,e⟩)
theorem zfA {ab n:Nat} {A:Nat->Acc} {sb:Nat->Value} (at' key v:Nat) (w:World) (h:Accs ab n A sb w) (hn:n<900000000000) (hz:Zr w) {f:Nat->Option Value} (hf:AM w ab n f) (e1:(f at').getD ziY=Zx (A at').bal (A at').code (.map none)) (h0:∀k,(A at').slots k%M=0):
  Calls prog 207 #[.map (some ab),wv at',wv key,wv v] w fun e w'=>e=.returned (.tuple #[])/\Accs ab (n+2) (Zd A at' {A at' with slots:=Yn (A at').slots key v}) (Zd sb at' (.map (some (nwb w)))) w'/\Kb [ab] w w':=by
 have hlk:=(hf.kb (Kb.of_below (S:=[]) (zdb w at' key v)) (by simp)).look yB yD at';rw[e1] at hlk
 have HF:Hid (∀x,Kb [nwb w] (b5 w at' key v (A at').bal (A at').code) x->AM x (nwb w) (n+1) (ZB (Yn (A at').slots key v))->Calls prog 81 #[.map (some ab),wv at',Zx (A at').bal (A at').code (.map (some (nwb w)))] x fun e w'=>e=.returned (.tuple #[])/\Accs ab (n+2) (Zd A at' {A at' with slots:=Yn (A at').slots key v}) (Zd sb at' (.map (some (nwb w)))) w'/\Kb [ab] x w'):=by
  intro x hk ha;have hab:ab<w.heap.size:=h.lt (Or.inl rfl);exact zbK h hn hz (S:=[]) ((b5_kb [] w at' key v _ _).trans hk (fun i hi=>Or.inr (by simp at hi;unfold nwb at hi;omega))) ha (by simp) (by unfold nwb;omega) (by unfold nwb;omega) (fun m hm hno e=>by have:=h.old hno e;unfold nwb at this;omega)
 have HG:Hid (∀m,ZB (A at').slots m=none):=fun m=>zm3 h0 m
 generalize hU:Zd A at' {A at' with slots:=Yn (A at').slots key v}=U at*;clear hU h0 e1;generalize(A at').bal=bl at*;generalize(A at').code=cd at*;generalize(A at').slots=sl at*;obtain⟨⟨z0,z1,z2,z3⟩,_⟩:=hz.below (bal (Below.refl _ w) (wc at'));have hmm:=@run_makeMap prog;have hne:=zl9;have hez:=yl v;have HA:=ze (b5_made w at' key v bl cd);have HKB:=ze (b5_kb [ab] w at' key v bl cd);have HL:Hid (0<maxLen):=by unfold maxLen;show 0<_;omega
 have HNB:Hid (nwb w∈[ab]\/w.heap.size<=nwb w):=Or.inr (by unfold nwb;omega);clear h hn hz hf;by_cases hv:v%M=0
 ·rw[zhd hv] at hez;have HV:=ze hv;clear hv;go_enter func207,ntmps207;go_wp2_with (first|(at_delete;refine Z8 _ rfl _ _ 93 rfl _ Yq (nwb w) 0 (fun _=>none) rfl HA.out key rfl ?_;intro w1 hA hT;have HA1:Hid (AM w1 (nwb w) (n+1) (ZB (Yn sl key v))/\Kb [nwb w] (b5 w at' key v bl cd) w1):=⟨(hA.mono (by omega)).congr (fun m=>(zdT sl key v HV.out m).trans (by rw[HG.out m])),ZU hT⟩;obtain⟨⟨c0,c1,c2,c3⟩,d0,d1,d2,d3,d4,d5⟩:=zaR (((Kb.refl [] (b4 w at' key v bl cd (some (nwb w)))).alloc (.map #[] 0)).mono (T:=[nwb w]) (by simp) |>.trans HA1.out.2 (fun i hi=>Or.inl hi)) (by simp[nwb];omega) (by simp[nwb]);clear hA hT)|fail)
  refine(HF.out _ HA1.out.2 HA1.out.1).mono ?_;rintro e w2 ⟨rfl,hR,hK⟩;have HO:Hid (Accs ab (n+2) U (Zd sb at' (.map (some (nwb w)))) w2/\Kb [ab] w w2):=⟨hR,(HKB.out.trans HA1.out.2 (fun i hi=>by simp at hi;subst hi;exact HNB.out)).trans hK (by simp)⟩;clear hR hK HF HA1;go_wp2;go_end0;exact⟨rfl,HO.out⟩
 ·rw[eqz_f hv] at hez;have HV:=ze hv;clear hv;go_enter func207,ntmps207;go_wp2_with (first|(at_mapUpdate;refine Zm _ rfl _ _ _ 93 rfl _ Yq (nwb w) 0 (fun _=>none) rfl HA.out HL.out key (wv v) rfl rfl ?_;intro w1 hA hT;have HA1:Hid (AM w1 (nwb w) (n+1) (ZB (Yn sl key v))/\Kb [nwb w] (b5 w at' key v bl cd) w1):=⟨(hA.mono (by omega)).congr (fun m=>(zdv sl key v HV.out m).trans (by rw[HG.out m])),ZU hT⟩;obtain⟨⟨c0,c1,c2,c3⟩,d0,d1,d2,d3,d4,d5⟩:=zaR (((Kb.refl [] (b4 w at' key v bl cd (some (nwb w)))).alloc (.map #[] 0)).mono (T:=[nwb w]) (by simp) |>.trans HA1.out.2 (fun i hi=>Or.inl hi)) (by simp[nwb];omega) (by simp[nwb]);clear hA hT)|fail)
  refine(HF.out _ HA1.out.2 HA1.out.1).mono ?_;rintro e w2 ⟨rfl,hR,hK⟩;have HO:Hid (Accs ab (n+2) U (Zd sb at' (.map (some (nwb w)))) w2/\Kb [ab] w w2):=⟨hR,(HKB.out.trans HA1.out.2 (fun i hi=>by simp at hi;subst hi;exact HNB.out)).trans hK (by simp)⟩;clear hR hK HF HA1;go_wp2;go_end0;exact⟨rfl,HO.out⟩
theorem b4_kb (S:List Nat) (w:World) (a c d bl:Nat) (cd:ByteArray) (o:Option Nat):Kb S w (b4 w a c d bl cd o):=((((Kb.refl S w).alloc _).alloc _).alloc _).alloc _
theorem zgv {ab n:Nat} {A:Nat->Acc} {sb:Nat->Value} (at' key v:Nat) (w:World) (h:Accs ab n A sb w) (hn:n<900000000000) (hz:Zr w) {f:Nat->Option Value} (hf:AM w ab n f) {b:Nat} (e1:(f at').getD ziY=Zx (A at').bal (A at').code (.map (some b))) (hb:AM w b n (ZB (A at').slots)) (hab:b≠ab) (hot:∀m,m%M≠at'%M->¬(A m).no->sb m≠.map (some b)) (hb0:0≠b):
  Calls prog 207 #[.map (some ab),wv at',wv key,wv v] w fun e w'=>e=.returned (.tuple #[])/\Accs ab (n+2) (Zd A at' {A at' with slots:=Yn (A at').slots key v}) (Zd sb at' (.map (some b))) w'/\Kb [ab,b] w w':=by
 have hlk:=(hf.kb (Kb.of_below (S:=[]) (zdb w at' key v)) (by simp)).look yB yD at';rw[e1] at hlk
 have HF:Hid (∀x,Kb [b] (b4 w at' key v (A at').bal (A at').code (some b)) x->AM x b (n+1) (ZB (Yn (A at').slots key v))->Calls prog 81 #[.map (some ab),wv at',Zx (A at').bal (A at').code (.map (some b))] x fun e w'=>e=.returned (.tuple #[])/\Accs ab (n+2) (Zd A at' {A at' with slots:=Yn (A at').slots key v}) (Zd sb at' (.map (some b))) w'/\Kb [ab] x w'):=by
  intro x hk ha;exact zbK h hn hz (S:=[b]) ((b4_kb [b] w at' key v _ _ _).trans hk (fun i hi=>Or.inl hi)) ha (by simp) hab hb0 hot
 have HA:=ze (hb.kb (b4_kb [] w at' key v (A at').bal (A at').code (some b)) (by simp));generalize hU:Zd A at' {A at' with slots:=Yn (A at').slots key v}=U at*;have hlt:=hb.lt;clear hU e1 hb hot;generalize(A at').bal=bl at*;generalize(A at').code=cd at*;generalize(A at').slots=sl at*;obtain⟨⟨z0,z1,z2,z3⟩,_⟩:=hz.below (bal (Below.refl _ w) (wc at'));have hne:=zm4 b;have hez:=yl v;have HKB:=ze (b4_kb [ab,b] w at' key v bl cd (some b));have HL:Hid (n<maxLen):=by unfold maxLen;show n<_;omega
 have HLT:Hid (w.heap.size∉[b]/\w.heap.size+1+1+1∉[b]):=⟨by simp;omega,by simp;omega⟩;clear h hn hz hf hlt hab hb0;by_cases hv:v%M=0
 ·rw[zhd hv] at hez;have HV:=ze hv;clear hv;go_enter func207,ntmps207;go_wp2_with (first|(at_delete;refine Z8 _ rfl _ _ 93 rfl _ Yq b n (ZB sl) rfl HA.out key rfl ?_;intro w1 hA hT;have HA1:Hid (AM w1 b (n+1) (ZB (Yn sl key v))/\Kb [b] (b4 w at' key v bl cd (some b)) w1):=⟨(hA.mono (by omega)).congr (fun m=>zdT sl key v HV.out m),ZU hT⟩;obtain⟨⟨c0,c1,c2,c3⟩,d0,d1,d2,d3,d4,d5⟩:=zaR HA1.out.2 HLT.out.1 HLT.out.2;clear hA hT)|fail)
  refine(HF.out _ HA1.out.2 HA1.out.1).mono ?_;rintro e w2 ⟨rfl,hR,hK⟩;have HO:Hid (Accs ab (n+2) U (Zd sb at' (.map (some b))) w2/\Kb [ab,b] w w2):=⟨hR,(HKB.out.trans HA1.out.2 (fun i hi=>Or.inl (by simp at hi;simp[hi]))).trans hK (fun i hi=>Or.inl (by simp at hi;simp[hi]))⟩;clear hR hK HF HA1;go_wp2;go_end0;exact⟨rfl,HO.out⟩
 ·rw[eqz_f hv] at hez;have HV:=ze hv;clear hv;go_enter func207,ntmps207;go_wp2_with (first|(at_mapUpdate;refine Zm _ rfl _ _ _ 93 rfl _ Yq b n (ZB sl) rfl HA.out HL.out key (wv v) rfl rfl ?_;intro w1 hA hT;have HA1:Hid (AM w1 b (n+1) (ZB (Yn sl key v))/\Kb [b] (b4 w at' key v bl cd (some b)) w1):=⟨hA.congr (fun m=>zdv sl key v HV.out m),ZU hT⟩;obtain⟨⟨c0,c1,c2,c3⟩,d0,d1,d2,d3,d4,d5⟩:=zaR HA1.out.2 HLT.out.1 HLT.out.2;clear hA hT)|fail)
  refine(HF.out _ HA1.out.2 HA1.out.1).mono ?_;rintro e w2 ⟨rfl,hR,hK⟩;have HO:Hid (Accs ab (n+2) U (Zd sb at' (.map (some b))) w2/\Kb [ab,b] w w2):=⟨hR,(HKB.out.trans HA1.out.2 (fun i hi=>Or.inl (by simp at hi;simp[hi]))).trans hK (fun i hi=>Or.inl (by simp at hi;simp[hi]))⟩;clear hR hK HF HA1;go_wp2;go_end0;exact⟨rfl,HO.out⟩
theorem zr_no {w:World} (hz:Zr w) {b n:Nat} {f:Nat->Option Value} (h:AM w b n f):0≠b:=fun e=>by
 subst e;obtain⟨es,cl,h1⟩:=h.is;obtain⟨⟨z0,_⟩,_⟩:=hz;simp[World.cell?,h1] at z0
theorem zfO {ab n:Nat} {A:Nat->Acc} {sb:Nat->Value} (at' key v:Nat) (w:World) (h:Accs ab n A sb w) (hn:n<900000000000) (hz:Zr w):
  Calls prog 207 #[.map (some ab),wv at',wv key,wv v] w fun e w'=>e=.returned (.tuple #[])/\(∃sv,(∀b,sv=.map (some b)->Za ab A sb b\/w.heap.size<=b)/\Accs ab (n+2) (Zd A at' {A at' with slots:=Yn (A at').slots key v}) (Zd sb at' sv) w')/\∃S,Kb S w w'/\∀k∈S,Za ab A sb k:=by
 obtain⟨f,hf,hf'⟩:=h.map;obtain⟨sv,e1,e3,e4,e5⟩:=h.read at' hf';rcases e3 with⟨rfl,h0⟩|⟨b,rfl,hab,hb⟩
 ·refine(zfA at' key v w h hn hz hf e1 h0).mono ?_;rintro e w' ⟨h1,h2,h3⟩;exact⟨h1,⟨_,fun b e=>Or.inr (by injection e with e;injection e with e;unfold nwb at e;omega),h2⟩,[ab],h3,fun k hk=>Or.inl (by simpa using hk)⟩
 ·refine(zgv at' key v w h hn hz hf e1 hb hab (fun m hm hno e=>e4 m b hm hno e rfl) (zr_no hz hb)).mono ?_;rintro e w' ⟨h1,h2,h3⟩;refine⟨h1,⟨_,fun b' e=>Or.inl (e5 b' e),h2⟩,[ab,b],h3,fun k hk=> ?_⟩;simp at hk;rcases hk with rfl|rfl
  ·exact Or.inl rfl
  ·exact e5 k rfl
end
section
open Go.Maps
structure Chg where
 kind:Nat
 at':Nat
 key:Nat
 old:Nat
structure LogE where
 at':Nat
 topics:List Nat
 data:ByteArray
structure TS where
 acc:Nat->Acc
 pas:Nat->Nat->Nat
 ch:List Chg
 logs:List LogE
structure TV where
 ab:Nat
 pb:Nat
 n:Nat
 sb:Nat->Value
 cv:Value
 lv:Value
 tv:List Value
abbrev zce (kind a key:Nat):Array Value:=#[.int .i64 (kind:Int),.int .u64 (za a 0),.int .u64 (za a 1),.int .u64 (za a 2),.int .u64 (za a 3),.int .u64 (za key 0),.int .u64 (za key 1),.int .u64 (za key 2),.int .u64 (za key 3)]
abbrev Z6 (kind a key:Nat):Value:=.agg (zce kind a key)
def chC (c:Chg):List Value:=[.int .i64 (c.kind:Int),.int .u64 (za c.at' 0),.int .u64 (za c.at' 1),.int .u64 (za c.at' 2),.int .u64 (za c.at' 3),.int .u64 (za c.key 0),.int .u64 (za c.key 1),.int .u64 (za c.key 2),.int .u64 (za c.key 3),.int .u64 (za c.old 0),.int .u64 (za c.old 1),.int .u64 (za c.old 2),.int .u64 (za c.old 3)]
def chL (l:List Chg):List Value:=l.flatMap chC
def loC (l:LogE) (t:Value):List Value:=[.int .u64 (za l.at' 0),.int .u64 (za l.at' 1),.int .u64 (za l.at' 2),.int .u64 (za l.at' 3),t,.string l.data]
def loL:List LogE->List Value->List Value
 |l::r,t::s=>loC l t++loL r s
 |_,_=>[]
def Lo (w:World) (base:Nat) (lv:Value) (tv:List Value) (L:List LogE):Prop:=
 tv.length=L.length/\w.ownsRow base 112 6 lv L.length (loL L tv)/\∀(i:Nat) l t,L[i]? =some l->tv[i]? =some t->Wds w base t l.topics
theorem Lo.kb {S:List Nat} {w w':World} {base:Nat} {lv:Value} {tv:List Value} {L:List LogE} (h:Lo w base lv tv L) (hk:Kb S w w') (h1:∀k,lv.ownBlock=some k->k∉S) (h2:∀t∈tv,∀k,t.ownBlock=some k->k∉S):Lo w' base lv tv L:=
 ⟨h.1,hk.own h.2.1 h1,fun i l t hl ht=>hk.own (h.2.2 i l t hl ht) (h2 t (List.mem_of_getElem? ht))⟩
def trC (V:TV) (i:Nat):Value:=if i=0 then .map (some V.ab) else if i=1 then .map (some V.pb) else if i=2 then V.cv else V.lv
def PM (w:World) (pb n:Nat) (p:Nat->Nat->Nat):Prop:=∃g,MapV prog 217 w pb n g/\∀a k,(g (Z6 2 a k)).getD (wv 0)=wv (p a k)
theorem PM.kb {S:List Nat} {w w':World} {pb n:Nat} {p:Nat->Nat->Nat} (h:PM w pb n p) (hk:Kb S w w') (hS:pb∉S):PM w' pb n p:=by
 obtain⟨g,h1,h2⟩:=h;exact⟨g,h1.block (hk.block pb h1.lt hS),h2⟩
theorem PM.lt {w:World} {pb n:Nat} {p:Nat->Nat->Nat} (h:PM w pb n p):pb<w.heap.size:=by
 obtain⟨g,h1,h2⟩:=h;exact h1.lt
theorem PM.is {w:World} {pb n:Nat} {p:Nat->Nat->Nat} (h:PM w pb n p):∃es cl,w.heap[pb]? =some (.map es cl):=by
 obtain⟨g,h1,h2⟩:=h;exact h1.is
theorem PM.mono {w:World} {pb n m:Nat} {p:Nat->Nat->Nat} (h:PM w pb n p) (hn:n<=m):PM w pb m p:=by
 obtain⟨g,h1,h2⟩:=h;exact⟨g,h1.mono hn,h2⟩
structure Tr (base tb:Nat) (T:TS) (V:TV) (w:World):Prop where
 row:w.rowIs tb 131 4 (trC V)
 acc:Accs V.ab V.n T.acc V.sb w
 pas:PM w V.pb V.n T.pas
 ch:w.ownsRow base 220 13 V.cv T.ch.length (chL T.ch)
 lo:Lo w base V.lv V.tv T.logs
 zr:Zr w
 hb:base<=w.heap.size
 hb1:0<base
 pn:¬Za V.ab T.acc V.sb V.pb
def zF (tb:Nat) (T:TS) (V:TV) (k:Nat):Prop:=k=tb\/Za V.ab T.acc V.sb k\/k=V.pb\/V.cv.ownBlock=some k\/V.lv.ownBlock=some k\/∃t∈V.tv,t.ownBlock=some k
theorem Tr.kb {S:List Nat} {base tb:Nat} {T:TS} {V:TV} {w w':World} (h:Tr base tb T V w) (hk:Kb S w w') (hS:∀k∈S,¬zF tb T V k) (h0:0∉S):Tr base tb T V w':=
 ⟨hk.row h.row (fun hm=>hS _ hm (Or.inl rfl)),h.acc.kb hk (fun k hm hf=>hS k hm (Or.inr (Or.inl hf))),h.pas.kb hk (fun hm=>hS _ hm (Or.inr (Or.inr (Or.inl rfl)))),
  hk.own h.ch (fun k e hm=>hS k hm (Or.inr (Or.inr (Or.inr (Or.inl e))))),h.lo.kb hk (fun k e hm=>hS k hm (Or.inr (Or.inr (Or.inr (Or.inr (Or.inl e)))))) (fun t ht k e hm=>hS k hm (Or.inr (Or.inr (Or.inr (Or.inr (Or.inr ⟨t,ht,e⟩)))))),
  h.zr.kb hk h0,Nat.le_trans h.hb hk.size,h.hb1,h.pn⟩
theorem Tr.below {base tb:Nat} {T:TS} {V:TV} {w w':World} (h:Tr base tb T V w) (hk:Below w.heap.size w w'):Tr base tb T V w':=h.kb (Kb.of_below (S:=[]) hk) (by simp) (by simp)
def zgH (T:TS) (kind a key:Nat):Nat:=if kind=0 then(T.acc a).bal else if kind=1 then(T.acc a).slots key else T.pas a key
theorem zki (s:Nat->Nat) (k:Nat):(ZB s k).getD (.agg #[.int .u64 0,.int .u64 0,.int .u64 0,.int .u64 0])=wv (s k):=by
 unfold ZB;by_cases h:s k%M=0
 ·rw[if_pos h,yA (show s k%M=0%M from h)];unfold wv;rw[zl,zl,zl,zl];rfl
 ·rw[if_neg h];rfl
theorem zj6 {w:World} {n ab:Nat} {s:Nat->Nat} {v:Value} (h:SlotsOk w n ab s v) (k:Nat):(Instr.lookup 93 v (wv k) false).run prog w=.ok (wv (s k)) w:=by
 rcases h with⟨rfl,h0⟩|⟨b,rfl,_,hb⟩
 ·obtain⟨l,hl⟩:=zcS k;have:=Maps.look_nil (w:=w) false YG Yq (zg6 w) hl;rw[yA (show s k%M=0%M from h0 k)];unfold wv;rw[zl,zl,zl,zl];simpa using this
 ·rw[hb.look Yq zg6 k,zki]
theorem zk4 (b:Nat) (c:ByteArray) (o:Option Nat) (w:World):(Instr.field 95 (Zx b c (.map o)) 0).run prog w=.ok (wv b) w:=by kernel_rfl
theorem acc_f1 (b:Nat) (c:ByteArray) (o:Option Nat) (w:World):(Instr.field 95 (Zx b c (.map o)) 1).run prog w=.ok (.string c) w:=by kernel_rfl
theorem acc_f2 (b:Nat) (c:ByteArray) (o:Option Nat) (w:World):(Instr.field 95 (Zx b c (.map o)) 2).run prog w=.ok (.map o) w:=by kernel_rfl
abbrev g2 (w:World) (kind a key:Nat):World:=((w.alloc (.cells (zce kind a key) 217)).alloc (.cells #[.int .u64 0,.int .u64 0,.int .u64 0,.int .u64 0] 24)).drew
theorem zfB (w:World) (kind a key:Nat):Below w.heap.size w (g2 w kind a key):=(bal (bal (Below.refl _ w) _) _).drew
theorem zdN {base tb:Nat} {T:TS} {V:TV} (a key:Nat) (w:World) (h:Tr base tb T V w):
  Calls prog 202 #[.pointer (some ⟨tb,0,none⟩),Z6 0 a key] w fun e w'=>e=.returned (wv (T.acc a).bal)/\Below w.heap.size w w':=by
 have h2:=h.below (zfB w 0 a key);obtain⟨f,hf,hf'⟩:=h2.acc.map;obtain⟨sv,e1,e3,e4,e5⟩:=h2.acc.read a hf';have hlk:=hf.look yB yD a;rw[e1] at hlk;have c0:=h2.row.cell (i:=0) (by decide);rw[show trC V 0=.map (some V.ab) from rfl] at c0;obtain⟨o,rfl⟩:=e3.is;generalize(T.acc a).bal=bl at*;generalize(T.acc a).code=cd at*;clear h h2 hf hf' e1 e3 e4 e5;have hfd:=zk4 bl cd o;go_enter func202,ntmps202;go_wp2
 go_region
 go_wp2;refine bodyPost_ret (v:=wv bl) (by simp[results,results202,go_sem]) rfl ⟨rfl,(bal (bal (Below.refl _ w) _) _).drew⟩
theorem zbB {base tb:Nat} {T:TS} {V:TV} (a key:Nat) (w:World) (h:Tr base tb T V w):
  Calls prog 202 #[.pointer (some ⟨tb,0,none⟩),Z6 1 a key] w fun e w'=>e=.returned (wv ((T.acc a).slots key))/\Below w.heap.size w w':=by
 have h2:=h.below (zfB w 1 a key);obtain⟨f,hf,hf'⟩:=h2.acc.map;obtain⟨sv,e1,e3,e4,e5⟩:=h2.acc.read a hf';have hlk:=hf.look yB yD a;rw[e1] at hlk;have c0:=h2.row.cell (i:=0) (by decide);rw[show trC V 0=.map (some V.ab) from rfl] at c0;obtain⟨o,rfl⟩:=e3.is;have hsl:=zj6 e3 key;generalize(T.acc a).slots key=r at*;generalize(T.acc a).bal=bl at*;generalize(T.acc a).code=cd at*;clear h h2 hf hf' e1 e3 e4 e5;have hfd:=acc_f2 bl cd o;go_enter func202,ntmps202;go_wp2
 go_region
 go_wp2;refine bodyPost_ret (v:=wv r) (by simp[results,results202,go_sem]) rfl ⟨rfl,(bal (bal (Below.refl _ w) _) _).drew⟩
end
section
open Go.Maps
def zbw (T:TS) (kind a key v:Nat):TS:=
 if kind=0 then{T with acc:=Zd T.acc a {T.acc a with bal:=v}} else if kind=1 then{T with acc:=Zd T.acc a {T.acc a with slots:=Yn (T.acc a).slots key v}} else{T with pas:=fun b k=>if b%M=a%M/\k%M=key%M then v else T.pas b k}
theorem Accs.isMap {ab n k:Nat} {A:Nat->Acc} {sb:Nat->Value} {w:World} (h:Accs ab n A sb w) (hk:Za ab A sb k):∃es cl,w.heap[k]? =some (.map es cl):=by
 rcases hk with rfl|⟨m,h1,h2⟩
 ·obtain⟨f,h1,_⟩:=h.map;exact h1.is
 ·rcases h.slot m h1 with⟨e,_⟩|⟨b,e,_,h3⟩
  ·rw[e] at h2;cases h2
  ·rw[e] at h2;injection h2 with h2;injection h2 with h2;subst h2;exact h3.is
theorem Yr {w:World} {base e size n k:Nat} {v:Value} {xs:List Value} (ho:w.ownsRow base e size v n xs) (hk:∃es cl,w.heap[k]? =some (.map es cl)):v.ownBlock≠some k:=fun h=>by
 obtain⟨es,cl,h1⟩:=hk;rcases ho.2 with⟨h2,_⟩|⟨g,cap,cur,h2,_,h3,_⟩
 ·rw[h2] at h;cases h
 ·rw[h2] at h;obtain rfl:g=k:=by simpa[Value.ownBlock] using h
  rw[h1] at h3;cases h3
theorem ZC {w:World} {b T N k:Nat} {f:Nat->Value} (hr:w.rowIs b T N f) (hk:∃es cl,w.heap[k]? =some (.map es cl)):b≠k:=fun e=>by
 subst e;obtain⟨es,cl,h1⟩:=hk;obtain⟨c,h2,_⟩:=hr;rw[h1] at h2;cases h2
theorem zbq {w:World} {k:Nat} (hz:Zr w) (hk:∃es cl,w.heap[k]? =some (.map es cl)):0≠k:=fun e=>by
 subst e;obtain⟨es,cl,h1⟩:=hk;obtain⟨⟨z0,_⟩,_⟩:=hz;simp[World.cell?,h1] at z0
theorem Lo.tv {w:World} {base:Nat} {lv:Value} {tv:List Value} {L:List LogE} (h:Lo w base lv tv L) {t:Value} (ht:t∈tv):∃l,Wds w base t l:=by
 obtain⟨i,hi,e⟩:=List.getElem_of_mem ht;have h1:i<L.length:=by rw[<-h.1];exact hi
 exact⟨_,h.2.2 i L[i] t (List.getElem?_eq_getElem h1) (by rw[List.getElem?_eq_getElem hi,e])⟩
def TTo (base tb:Nat) (T:TS) (V:TV) (T':TS) (m:Nat) (w w':World):Prop:=∃V' S,Tr base tb T' V' w'/\V'.n<=V.n+m/\Kb S w w'/\(∀k∈S,zF tb T V k)/\(∀k,zF tb T' V' k->zF tb T V k\/w.heap.size<=k)/\V'.ab=V.ab
theorem TTo.pre {base tb m:Nat} {T T1:TS} {V:TV} {w x w1:World} (hb:Below w.heap.size w x) (h:TTo base tb T V T1 m x w1):TTo base tb T V T1 m w w1:=by
 obtain⟨V1,S,h1,h2,h3,h4,h5,h6⟩:=h;refine⟨V1,S,h1,h2,(Kb.of_below hb).trans h3 (fun i hi=>Or.inl hi),h4,fun k hk=>(h5 k hk).imp id (fun h=>Nat.le_trans hb.size h),h6⟩
theorem Tr.acc_to {base tb n' a:Nat} {T:TS} {V:TV} {w w':World} {A':Acc} {sv:Value} {S:List Nat} (h:Tr base tb T V w) (hk:Kb S w w') (hS:∀k∈S,Za V.ab T.acc V.sb k) (hn:V.n<=n') (hsv:∀b,sv=.map (some b)->Za V.ab T.acc V.sb b\/w.heap.size<=b) (hA:Accs V.ab n' (Zd T.acc a A') (Zd V.sb a sv) w'):
  Tr base tb {T with acc:=Zd T.acc a A'} {V with n:=n',sb:=Zd V.sb a sv} w'/\∀k,zF tb {T with acc:=Zd T.acc a A'} {V with n:=n',sb:=Zd V.sb a sv} k->zF tb T V k\/w.heap.size<=k:=by
 have ha:∀k,Za V.ab (Zd T.acc a A') (Zd V.sb a sv) k->Za V.ab T.acc V.sb k\/w.heap.size<=k:=by
  intro k hk;rcases hk with rfl|⟨m,h1,h2⟩
  ·exact Or.inl (Or.inl rfl)
  ·by_cases e:m%M=a%M
   ·rw[yL e] at h2;exact hsv k h2
   ·rw[yk e] at h1 h2;exact Or.inl (Or.inr ⟨m,h1,h2⟩)
 have hm:∀k∈S,∃es cl,w.heap[k]? =some (.map es cl):=fun k hk=>h.acc.isMap (hS k hk)
 refine⟨⟨hk.row h.row (fun e=>ZC h.row (hm _ e) rfl),hA,(h.pas.kb hk (fun e=>h.pn (hS _ e))).mono hn,hk.own h.ch (fun k e hS=>Yr h.ch (hm k hS) e),h.lo.kb hk (fun k e hS=>Yr h.lo.2.1 (hm k hS) e) (fun t ht k e hS=>by obtain⟨l,hl⟩:=h.lo.tv ht;exact Yr hl (hm k hS) e),h.zr.kb hk (fun e=>zbq h.zr (hm _ e) rfl),Nat.le_trans h.hb hk.size,h.hb1,fun e=> ?_⟩,fun k hk=> ?_⟩
 ·rcases ha _ e with e|e
  ·exact h.pn e
  ·have:=h.pas.lt;exact absurd e (by show¬w.heap.size<=V.pb;omega)
 ·rcases hk with e|e|e
  ·exact Or.inl (Or.inl e)
  ·rcases ha _ e with e|e
   ·exact Or.inl (Or.inr (Or.inl e))
   ·exact Or.inr e
  ·exact Or.inl (Or.inr (Or.inr e))
theorem zeF {base tb:Nat} {T:TS} {V:TV} (a v:Nat) (w:World) (h:Tr base tb T V w) (hn:V.n<900000000000):
  Calls prog 206 #[.map (some V.ab),wv a,wv v] w fun e w'=>e=.returned (.tuple #[])/\TTo base tb T V (zbw T 0 a 0 v) 2 w w':=by
 refine(zcE a v w h.acc (by omega) h.zr).mono ?_;rintro e w' ⟨h1,⟨sv,h2,h3⟩,h4⟩;obtain⟨h5,h6⟩:=h.acc_to h4 (fun k hk=>Or.inl (by simpa using hk)) (Nat.le_succ _) (fun b e=>Or.inl (h2 b e)) h3;exact⟨h1,_,[V.ab],h5,by show V.n+1<=_;omega,h4,fun k hk=>Or.inr (Or.inl (Or.inl (by simpa using hk))),h6,rfl⟩
theorem zkD {base tb:Nat} {T:TS} {V:TV} (a key v:Nat) (w:World) (h:Tr base tb T V w) (hn:V.n<900000000000):
  Calls prog 207 #[.map (some V.ab),wv a,wv key,wv v] w fun e w'=>e=.returned (.tuple #[])/\TTo base tb T V (zbw T 1 a key v) 2 w w':=by
 refine(zfO a key v w h.acc hn h.zr).mono ?_;rintro e w' ⟨h1,⟨sv,h2,h3⟩,S,h4,h7⟩;obtain⟨h5,h6⟩:=h.acc_to h4 h7 (Nat.le_add_right _ 2) h2 h3;exact⟨h1,_,S,h5,by show V.n+2<=_;omega,h4,fun k hk=>Or.inr (Or.inl (h7 k hk)),h6,rfl⟩
abbrev p2 (w:World) (kind a key v:Nat):World:=((w.alloc (.cells (zce kind a key) 217)).alloc (wc v)).drew
theorem za7 (w:World) (kind a key v:Nat):Below w.heap.size w (p2 w kind a key v):=(bal (bal (Below.refl _ w) _) _).drew
theorem zh2 {base tb:Nat} {T:TS} {V:TV} (a key v:Nat) (w:World) (h:Tr base tb T V w) (hn:V.n<900000000000):
  Calls prog 159 #[.pointer (some ⟨tb,0,none⟩),Z6 0 a key,wv v] w fun e w'=>e=.returned (.tuple #[])/\TTo base tb T V (zbw T 0 a key v) 2 w w':=by
 have h2:=h.below (za7 w 0 a key v);have HS:=ze (zeF a v _ h2 hn);have HB:=ze (za7 w 0 a key v);have c0:=h2.row.cell (i:=0) (by decide);rw[show trC V 0=.map (some V.ab) from rfl] at c0;have HT:Hid (zbw T 0 a key v=zbw T 0 a 0 v):=rfl;clear h h2;go_enter func159,ntmps159;go_wp2
 go_region_with (refine HS.out.mono ?_;rintro e w1 ⟨rfl,hto⟩)
 all_goals (
  have HO:Hid (TTo base tb T V (zbw T 0 a key v) 2 w w1):=by rw[HT.out];exact hto.pre HB.out
  clear hto;go_wp2;go_end0;exact⟨rfl,HO.out⟩)
theorem zeG {base tb:Nat} {T:TS} {V:TV} (a key v:Nat) (w:World) (h:Tr base tb T V w) (hn:V.n<900000000000):
  Calls prog 159 #[.pointer (some ⟨tb,0,none⟩),Z6 1 a key,wv v] w fun e w'=>e=.returned (.tuple #[])/\TTo base tb T V (zbw T 1 a key v) 2 w w':=by
 have h2:=h.below (za7 w 1 a key v);have HS:=ze (zkD a key v _ h2 hn);have HB:=ze (za7 w 1 a key v);have c0:=h2.row.cell (i:=0) (by decide);rw[show trC V 0=.map (some V.ab) from rfl] at c0;clear h h2;go_enter func159,ntmps159;go_wp2
 go_region_with (refine HS.out.mono ?_;rintro e w1 ⟨rfl,hto⟩)
 all_goals (
  have HO:Hid (TTo base tb T V (zbw T 1 a key v) 2 w w1):=hto.pre HB.out;clear hto;go_wp2;go_end0;exact⟨rfl,HO.out⟩)
end
section
section
variable {P:Program} {ops:Array Oper} {Q:Exit->Act->World->Prop}
theorem zlA (G:Array Bool->Act->World->Prop)
  (hstep:∀(l:Array Bool) (i:Nat) (o:Oper),l.size=ops.size->ops[i]? =some o->l.getD i false=false->(∀e∈o.after,Region.binds .any e=true->l.getD e.on false=true)->∀a w,G l a w->
   wpOp P ops Q i (fun a' w'=>G (l.setIfInBounds i true) a' w') a w)
  (hdone:∀(l:Array Bool) a w,l.size=ops.size->(∀i,i<ops.size->l.getD i false=true)->G l a w->Q .normal a w)
  (hall:∀l:Array Bool,l.size=ops.size->Region.ready .any ops l=[]->∀i,i<ops.size->l.getD i false=true):
  ∀(fuel:Nat) (listed:Array Bool) (a:Act) (w:World),(List.range ops.size).countP (fun i=> !listed.getD i true)<=fuel->listed.size=ops.size->
   G listed a w->wpAny P .any ops Q fuel listed a w:=by
 intro fuel
 induction fuel with
 |zero=>
  intro listed a w hc hs hG
  have h0:Region.ready .any ops listed=[]:=by
   apply List.eq_nil_iff_forall_not_mem.2;intro i hi;simp only[Region.ready,List.mem_filter,Bool.and_eq_true] at hi;have hz:(List.range ops.size).countP (fun i=> !listed.getD i true)=0:=by omega
   rw[List.countP_eq_zero] at hz;exact hz i hi.1 hi.2.1
  exact⟨h0,hdone listed a w hs (hall _ hs h0) hG⟩
 |succ fuel ih=>
  intro listed a w hc hs hG;refine⟨fun h0=>hdone listed a w hs (hall _ hs h0) hG,fun i hi=> ?_⟩;simp only[Region.ready,List.mem_filter,Bool.and_eq_true,List.mem_range] at hi;obtain⟨hlt,hl,haft⟩:=hi;have ho:ops[i]? =some ops[i]:=getElem?_pos ops i hlt;rw[ho] at haft;simp only[Option.map_some,Option.getD_some,Array.all_eq_true',Bool.or_eq_true,Bool.not_eq_true'] at haft;have hli:i<listed.size:=by omega
  have hnf:listed.getD i false=false:=by
   simp only[Array.getD_eq_getD_getElem?,getElem?_pos listed i hli,Option.getD_some] at hl⊢;simpa using hl
  refine wpOp_mono ?_ (hstep listed i _ hs ho hnf (fun e he hb=>(haft e he).resolve_left (by rw[hb];simp)) a w hG);intro a' w' hG';refine ih _ a' w' ?_ (by simp[hs]) hG';have:=zbz (p:=fun i=> !listed.getD i true) (p':=fun j=> !(listed.setIfInBounds i true).getD j true) ?_ (List.range ops.size) i (by simpa using hlt) (by simpa using hl) ?_
  ·omega
  ·intro j hj;simp only[Array.getD_eq_getD_getElem?,Array.getElem?_setIfInBounds] at hj⊢;by_cases e:i=j
   ·subst e;simp[hli] at hj
   ·simpa[e] using hj
  ·simp[Array.getD_eq_getD_getElem?,hli]
theorem Yk {id:Nat} {a:Act} {w:World} (hm:P.follows .mixedOrders=true) (hdown:zat ops=true) (G:Array Bool->Act->World->Prop) (h0:G (Array.replicate ops.size false) a w.drew)
  (hstep:∀(l:Array Bool) (i:Nat) (o:Oper),l.size=ops.size->ops[i]? =some o->l.getD i false=false->(∀e∈o.after,Region.binds .any e=true->l.getD e.on false=true)->∀a w,G l a w->
   wpOp P ops Q i (fun a' w'=>G (l.setIfInBounds i true) a' w') a w)
  (hdone:∀(l:Array Bool) a w,l.size=ops.size->(∀i,i<ops.size->l.getD i false=true)->G l a w->Q .normal a w):(Code.region id ops true).wp P Q a w:=by
 refine wp_region_any hm (zlA G hstep hdone (ZX hdown) _ _ a _ ?_ (by simp) h0);exact Nat.le_trans List.countP_le_length (by simp)
end
variable {s:Act} {x:World} {pos:String} {af:Array Edge} {g:Option (Nat×Bool)} {K:Act->World->Prop} {Q:Exit->Act->World->Prop}
theorem zg4 {f d:Nat} {xs:Array Operand} {vs:Array Value} {A:Array TypeId} {ty:TypeId} {Post:Ending->World->Prop} (hf:Own f) (hv:#[]++xs.map s.eval++#[]=vs) (hc:Calls prog f vs x Post)
  (hK:∀e x',Post e x'->(∃r,e=.returned r/\K (s.put (some d) r) x')\/(∃ch,e=.panicked ch/\Q (.panic ch) s x')):
  Oper.wp prog ⟨some d,.call ⟨.value (.func f),xs,A⟩,ty,pos,af,g⟩ s x K Q:=by
 unfold Oper.wp;rw[execOp_call_go,hv,hf];rw[Oper.upon_enter];refine hc.mono ?_;intro e y h;rcases hK e y h with⟨r,rfl,h2⟩|⟨ch,rfl,h2⟩
 ·exact h2
 ·exact h2
theorem zmn {t d:Nat} {ty:TypeId} {ad:Addr} (he:s.tmps.getD t undef=.pointer (some ad)) (hK:K (s.put (some d) (.pointer (some ad))) x):
  Oper.wp prog ⟨some d,.nilCheck (.tmp t),ty,pos,af,g⟩ s x K Q:=by
 have he2:s.eval (.tmp t)=.pointer (some ad):=he;go_simp;exact hK
end
section
open Go.Maps
theorem zjg:Own 202:=fun _ _=>by kernel_rfl
theorem info_ch:(prog.info? 220).map (fun i=>(i.zero,i.size,i.bytes))=some (some (.agg #[.int .i64 0,.int .u64 0,.int .u64 0,.int .u64 0,.int .u64 0,.int .u64 0,.int .u64 0,.int .u64 0,.int .u64 0,.int .u64 0,.int .u64 0,.int .u64 0,.int .u64 0]),13,104):=by kernel_rfl
theorem ty_ch:prog.underlying 129=some (.slice 220):=by kernel_rfl
def yi (T:TS) (kind a key v:Nat):TS:=zbw {T with ch:=T.ch++[⟨kind,a,key,zgH T kind a key⟩]} kind a key v
theorem zkX (l:List Chg) (c:Chg):chL (l++[c])=chL l++chC c:=by simp[chL]
theorem trC_cv (V:TV) (v':Value):(fun i=>if i=2 then v' else trC V i)=trC {V with cv:=v'}:=by
 funext i;by_cases h:i=2
 ·subst h;rfl
 ·simp only[trC,if_neg h]
theorem tCh_Lo:(220:Nat)≠112:=by decide
theorem tCh_Wd:(220:Nat)≠24:=by decide
theorem ziv:(131:Nat)≠220:=by decide
theorem tTr_Lo:(131:Nat)≠112:=by decide
theorem tTr_Wd:(131:Nat)≠24:=by decide
theorem Tr.ch_to {base tb:Nat} {T:TS} {V:TV} {w w':World} {v':Value} {c':List Chg} (h:Tr base tb T V w) (hu:Up V.cv.ownBlock.toList tb 2 v' w w') (ho:w'.ownsRow base 220 13 v' c'.length (chL c')) (hf:zar w V.cv v') (hcb:∀k,V.cv.ownBlock=some k->base<=k):
  Tr base tb {T with ch:=c'} {V with cv:=v'} w'/\TTo base tb T V {T with ch:=c'} 0 w w':=by
 have hS:∀k∈tb::V.cv.ownBlock.toList,k=tb\/V.cv.ownBlock=some k:=fun k hk=>by simpa using hk
 have hnm:∀k,(∃es cl,w.heap[k]? =some (.map es cl))->k∉tb::V.cv.ownBlock.toList:=fun k hm hk=>by
  rcases hS k hk with e|e
  ·exact ZC h.row hm e.symm
  ·exact Yr h.ch hm e
 have hdis:∀{e size n v xs b},w.ownsRow b e size v n xs->131≠e->220≠e->∀k,v.ownBlock=some k->k∉tb::V.cv.ownBlock.toList:=fun ho h1 h2 k hk hm=>by
  rcases hS k hm with e|e
  ·exact zQ h.row ho h1 k hk e
  ·rcases zct h.ch ho h2 with e2|e2
   ·rw[e] at e2;cases e2
   ·exact e2 (e.trans hk.symm)
 have h0:0∉tb::V.cv.ownBlock.toList:=fun hm=>by
  rcases hS 0 hm with e|e
  ·have h1:=h.row.cell (i:=0) (by decide);rw[<-e] at h1;rw[h.zr.1.1] at h1;cases h1
  ·have:=hcb 0 e;have:=h.hb1;omega
 have hT:Tr base tb {T with ch:=c'} {V with cv:=v'} w':=by
  refine⟨?_,h.acc.kb hu.kb (fun k hk hm=>hnm k (h.acc.isMap hm) hk),h.pas.kb hu.kb (hnm _ h.pas.is),ho,h.lo.kb hu.kb (hdis h.lo.2.1 tTr_Lo tCh_Lo) (fun t ht=>by obtain⟨l,hl⟩:=h.lo.tv ht;exact hdis hl tTr_Wd tCh_Wd),h.zr.kb hu.kb h0,Nat.le_trans h.hb hu.kb.size,h.hb1,h.pn⟩;rw[<-trC_cv];exact hu.row h.row
 refine⟨hT,_,_,hT,Nat.le_refl _,hu.kb,fun k hk=> ?_,fun k hk=> ?_,rfl⟩
 ·rcases hS k hk with e|e
  ·exact Or.inl e
  ·exact Or.inr (Or.inr (Or.inr (Or.inl e)))
 ·rcases hk with e|e|e|e|e
  ·exact Or.inl (Or.inl e)
  ·exact Or.inl (Or.inr (Or.inl e))
  ·exact Or.inl (Or.inr (Or.inr (Or.inl e)))
  ·rcases hf with e2|e2
   ·exact Or.inl (Or.inr (Or.inr (Or.inr (Or.inl (e2▸e)))))
   ·exact Or.inr (e2 k e)
  ·exact Or.inl (Or.inr (Or.inr (Or.inr (Or.inr e))))
theorem zmh {S:List Nat} {w x:World} {a key v kind:Nat} (hk:Kb S (p2 w kind a key v) x) (h1:w.heap.size∉S) (h2:w.heap.size+1∉S):
  (x.cell? ⟨w.heap.size,0,none⟩=some (.int .i64 (kind:Int))/\x.cell? ⟨w.heap.size,1,none⟩=some (.int .u64 (za a 0))/\x.cell? ⟨w.heap.size,2,none⟩=some (.int .u64 (za a 1))/\x.cell? ⟨w.heap.size,3,none⟩=some (.int .u64 (za a 2))/\x.cell? ⟨w.heap.size,4,none⟩=some (.int .u64 (za a 3))/\
   x.cell? ⟨w.heap.size,5,none⟩=some (.int .u64 (za key 0))/\x.cell? ⟨w.heap.size,6,none⟩=some (.int .u64 (za key 1))/\x.cell? ⟨w.heap.size,7,none⟩=some (.int .u64 (za key 2))/\x.cell? ⟨w.heap.size,8,none⟩=some (.int .u64 (za key 3)))/\
  (x.cell? ⟨w.heap.size+1,0,none⟩=some (.int .u64 (za v 0))/\x.cell? ⟨w.heap.size+1,1,none⟩=some (.int .u64 (za v 1))/\x.cell? ⟨w.heap.size+1,2,none⟩=some (.int .u64 (za v 2))/\x.cell? ⟨w.heap.size+1,3,none⟩=some (.int .u64 (za v 3))):=by
 have q1:∀i,x.cell? ⟨w.heap.size,i,none⟩=(p2 w kind a key v).cell? ⟨w.heap.size,i,none⟩:=fun i=>World.cell?_of_block (hk.block _ (by simp;omega) h1)
 have q2:∀i,x.cell? ⟨w.heap.size+1,i,none⟩=(p2 w kind a key v).cell? ⟨w.heap.size+1,i,none⟩:=fun i=>World.cell?_of_block (hk.block _ (by simp) h2)
 simp only[q1,q2];simp[go_sem]
end
theorem zlC (fb o k n cap:Nat) (ad:Option Addr) (w:World) (hc:w.cell? ⟨fb,o,none⟩=some (.slice ad n cap)) (hn:n<=1024) (hk:k<n):
  Calls prog 273 #[.pointer (some ⟨fb,o,none⟩),.int .i64 (k:Int)] w fun e w'=>e=.returned (.int .i64 ((n - 1 - k:Nat):Int))/\w'=w:=by
 have d:decide ((n:Int)<=(k:Int))=false:=decide_eq_false (by omega);go_enter func273,ntmps273;go_wp2;go_ret;exact⟨congrArg (fun z=>Ending.returned (Value.int .i64 z)) (by omega),rfl⟩
theorem zne (fb o k n cap:Nat) (ad:Option Addr) (w:World) (hc:w.cell? ⟨fb,o,none⟩=some (.slice ad n cap)) (hn:n<=1024) (hk:n<=k) (hk2:k<=1024):
  Calls prog 273 #[.pointer (some ⟨fb,o,none⟩),.int .i64 (k:Int)] w fun e w'=>Pan e/\w'=w:=by
 have d:decide ((n:Int)<=(k:Int))=true:=decide_eq_true (by omega);go_enter func273,ntmps273;go_wp2;exact⟨rfl,⟨_,_,rfl⟩,rfl⟩
theorem zdz:∀(l:List Nat) (j:Nat) (h:j<l.length) (i:Nat),i<4->(yj l)[j*4+i]? =some (.int .u64 (za l[j] i))
 |n::l,0,h,i,hi=>by
  rw[Nat.zero_mul,Nat.zero_add];rcases k4 hi with rfl|rfl|rfl|rfl<;>rfl
 |n::l,j+1,h,i,hi=>by
  have ih:=zdz l j (by simpa using h) i hi;rw[show(j+1)*4+i=(j*4+i)+4 by omega];exact ih
theorem zgk (l m:List Nat):(yj (l++m)).take (l.length*4)=yj l:=by
 unfold yj;rw[List.flatMap_append,List.take_append_of_le_length (by have:=zaI l;unfold yj at this;omega),List.take_of_length_le (by have:=zaI l;unfold yj at this;omega)]
theorem Wds.trunc {w:World} {base g cap:Nat} {l m:List Nat} (h:Wds w base (.slice (some ⟨g,0,none⟩) (l++m).length cap) (l++m)):Wds w base (.slice (some ⟨g,0,none⟩) l.length cap) l:=by
 refine⟨zaI l, ?_⟩;rcases h.2 with⟨h1,h2⟩|⟨g',cap',cur,h1,h2,h3,h4,h5,h6,h7⟩
 ·cases h1
 ·injection h1 with e1 e2 e3
  injection e1 with e1
  injection e1 with e1
  subst e1 e3;refine Or.inr ⟨g,cap,cur,rfl,h2,h3,by rw[List.length_append] at h4;omega,h5,h6, ?_⟩;rw[<-zgk l m,<-h7,List.take_take];congr 1;rw[List.length_append];omega
theorem Wds.at {w:World} {base g cap n:Nat} {l:List Nat} (h:Wds w base (.slice (some ⟨g,0,none⟩) l.length cap) l) {j:Nat} (hj:j<l.length) (hn:l[j]=n):
  w.cell? ⟨g,j*4,none⟩=some (.int .u64 (za n 0))/\w.cell? ⟨g,j*4+1,none⟩=some (.int .u64 (za n 1))/\w.cell? ⟨g,j*4+2,none⟩=some (.int .u64 (za n 2))/\w.cell? ⟨g,j*4+3,none⟩=some (.int .u64 (za n 3)):=by
 subst hn;have e:∀i,i<4->w.cell? ⟨g,j*4+i,none⟩=some (.int .u64 (za l[j] i)):=fun i hi=>(World.ownsRow.cellAt h (j*4+i) (by omega)).trans (zdz l j hj i hi)
 exact⟨e 0 (by omega),e 1 (by omega),e 2 (by omega),e 3 (by omega)⟩
theorem pop_ok {T N:Nat} {f:Nat->Value} (fb o n base:Nat) (l:List Nat) (v:Value) (w:World) (hr:w.rowIs fb T N f) (ho:o<N) (hv:f o=v) (hT:T≠24) (hs:Wds w base v (l++[n])) (hl:l.length<1024):
  Calls prog 257 #[.pointer (some ⟨fb,o,none⟩)] w fun e w'=>e=.returned (wv n)/\∃v',Wds w' base v' l/\v'.ownBlock=v.ownBlock/\Up [] fb o v' w w':=by
 have hlt:=hr.lt;have hfb:=zQ hr hs hT;obtain⟨g,cap,rfl,hg1,hg2,hg3⟩:=zB hs (by simp);have hgf:g≠fb:=hfb g rfl;have hlen:(l++[n]).length=l.length+1:=by simp
 rw[hlen] at hv hg3;obtain⟨Z,HZ⟩:∃Z:World,Hid (Z=w.alloc (.cells #[.int .u64 0,.int .u64 0,.int .u64 0,.int .u64 0] 24)):=⟨_,rfl⟩;have hbz:Below w.heap.size w Z:=by rw[HZ.out];exact bal (Below.refl _ w) _
 have hz0:Z.rowIs w.heap.size 24 4 (zj fun _=>0):=by rw[HZ.out];exact zh (fun _=>0) rfl rfl rfl rfl rfl
 have hrz:=zf hr hbz;have hsz:Z.heap.size=w.heap.size+1:=by rw[HZ.out];simp
 have hwz:Wds Z base (.slice (some ⟨g,0,none⟩) (l++[n]).length cap) (l++[n]):=zA hs hbz;have hc:Z.cell? ⟨fb,o,none⟩=some (.slice (some ⟨g,0,none⟩) (l.length+1) cap):=(hrz.cell ho).trans (congrArg some hv);have HP:Hid (∀w:World,w.cell? ⟨fb,o,none⟩=some (.slice (some ⟨g,0,none⟩) (l.length+1) cap)->Calls prog 273 #[.pointer (some ⟨fb,o,none⟩),.int .i64 0] w fun e w'=>e=.returned (.int .i64 (l.length:Int))/\w'=w):=fun w h=>(zlC fb o 0 (l.length+1) cap (some ⟨g,0,none⟩) w h (by omega) (by omega)).mono fun e w' ⟨h1,h2⟩=>⟨by rw[h1];rfl,h2⟩
 obtain⟨c0,c1,c2,c3⟩:=hwz.at (j:=l.length) (n:=n) (by simp) (by simp);have hfz:=hrz.frozen o;obtain⟨z0,z1,z2,z3⟩:=zb hz0;have fz:=hz0.frozen;have HS:=ze hwz.trunc;have HB:=ze hbz;have HR:=ze hrz;have HZ0:=ze hz0;clear hs hfb hr hwz hbz hrz hz0 hv;go_enter func257,ntmps257;go_wp2_with fail
 rw[<-HZ.out];refine(HP.out _ hc).mono ?_;rintro e w1 ⟨rfl,rfl⟩;clear HZ HP;go_wp2
 have k1:Kb [w.heap.size] (w1.setCell ⟨fb,o,none⟩ (.slice (some ⟨g,0,none⟩) l.length cap)) ((((((w1.setCell ⟨fb,o,none⟩ (.slice (some ⟨g,0,none⟩) l.length cap)).setCell ⟨w.heap.size,0,none⟩ (.int .u64 (za n 0))).setCell ⟨w.heap.size,1,none⟩ (.int .u64 (za n 1))).setCell ⟨w.heap.size,2,none⟩ (.int .u64 (za n 2))).setCell ⟨w.heap.size,3,none⟩ (.int .u64 (za n 3))).alloc (wc n)):=
  (((((Kb.refl _ _).setCell (Or.inl (by simp)) _).setCell (Or.inl (by simp)) _).setCell (Or.inl (by simp)) _).setCell (Or.inl (by simp)) _).alloc _
 have hrow:=(zm (HZ0.out.setOther (a:=⟨fb,o,none⟩) (by show w.heap.size≠fb;omega) (.slice (some ⟨g,0,none⟩) l.length cap)) (za n) rfl rfl rfl rfl).alloc (wc n);obtain⟨q0,q1,q2,q3⟩:=zb hrow;refine bodyPost_ret (v:=wv n) (by simp[results,results257,go_sem,q0,q1,q2,q3]) rfl ⟨rfl,.slice (some ⟨g,0,none⟩) l.length cap, ?_,rfl, ?_⟩
 ·exact k1.own (zbZ HS.out (fun k hk=>by obtain rfl:g=k:=(by simpa[Value.ownBlock] using hk);exact hgf) o _) (fun k hk=>by obtain rfl:g=k:=(by simpa[Value.ownBlock] using hk);simp;omega)
 ·have u1:Up [] fb o (.slice (some ⟨g,0,none⟩) l.length cap) w (w1.setCell ⟨fb,o,none⟩ (.slice (some ⟨g,0,none⟩) l.length cap)):=Up.mk' _ (Kb.of_below HB.out) (by simp) hlt;exact⟨u1.kb.trans k1 (by simp),fun hr=>k1.row (u1.row hr) (by simp;omega)⟩
structure Fz where
 trail:Value
 code:ByteArray
 jd:Value
 self:Nat
 caller:Nat
 value:Nat
 data:ByteArray
 gas:Nat
 ro:Bool
 depth:Nat
 st:List Nat
 mem:List UInt8
 ret:ByteArray
 pc:Nat
 nx:Nat
 ended:Bool
 status:Nat
 out:ByteArray
def Fz.cell (F:Fz) (sv mv:Value) (i:Nat):Value:=
 if i=0 then F.trail else
 if i=1 then .string F.code else
 if i=2 then F.jd else
 if i=3+0 then .int .u64 (za F.self 0) else
 if i=3+1 then .int .u64 (za F.self 1) else
 if i=3+2 then .int .u64 (za F.self 2) else
 if i=3+3 then .int .u64 (za F.self 3) else
 if i=7+0 then .int .u64 (za F.caller 0) else
 if i=7+1 then .int .u64 (za F.caller 1) else
 if i=7+2 then .int .u64 (za F.caller 2) else
 if i=7+3 then .int .u64 (za F.caller 3) else
 if i=11+0 then .int .u64 (za F.value 0) else
 if i=11+1 then .int .u64 (za F.value 1) else
 if i=11+2 then .int .u64 (za F.value 2) else
 if i=11+3 then .int .u64 (za F.value 3) else
 if i=15 then .string F.data else
 if i=16 then .int .i64 (F.gas:Int) else
 if i=17 then .bool F.ro else
 if i=18 then .int .i64 (F.depth:Int) else
 if i=19 then sv else
 if i=20 then mv else
 if i=21 then .string F.ret else
 if i=22 then .int .i64 (F.pc:Int) else
 if i=23 then .int .i64 (F.nx:Int) else
 if i=24 then .bool F.ended else
 if i=25 then .int .u8 (F.status:Int) else
 if i=26 then .string F.out else
 undef
def jdF (code:ByteArray):Nat->Nat->List Bool->List Bool
 |0,_,acc=>acc
 |f+1,i,acc=>if i<code.size then
   jdF code f (i+1+(if 95<byt code i/\byt code i<=127 then byt code i - 95 else 0)) (if byt code i=91 then acc.set i true else acc)
  else acc
def jdL (code:ByteArray):List Bool:=jdF code code.size 0 (List.replicate (code.size+1) false)
def Jds (w:World) (jd:Value) (code:ByteArray):Prop:=∃g cap:Nat,jd=.slice (some ⟨g,0,none⟩) (code.size+1) cap/\w.rowIs g 4 (code.size+1) (fun i=>.bool ((jdL code).getD i false))
structure Fr (base fb:Nat) (F:Fz) (S:List Nat) (sv mv:Value) (w:World):Prop where
 row:w.rowIs fb 137 27 (F.cell sv mv)
 st:Wds w base sv F.st.reverse
 me:Bys w base mv F.mem
 foot:S=fb::(sv.ownBlock.toList++mv.ownBlock.toList)
 stl:F.st.length<=1024
 mel:F.mem.length<=65536
 gal:F.gas<=100000
 hb:base<=w.heap.size
 zr:∀i,i<4->w.cell? ⟨0,i,none⟩=some (.int .u64 0)
 hb1:0<base
 hfb:base<=fb
 m32:F.mem.length%32=0
 jr:Jds w F.jd F.code
theorem Jds.kb {w w':World} {jd:Value} {code:ByteArray} {S:List Nat} (h:Jds w jd code) (hk:Kb S w w') (hS:∀g N f,w.rowIs g 4 N f->g∉S):Jds w' jd code:=by
 obtain⟨g,cap,h1,h2⟩:=h;exact⟨g,cap,h1,hk.row h2 (hS _ _ _ h2)⟩
theorem tb1:(4:Nat)≠24:=by decide
theorem tb2:(4:Nat)≠5:=by decide
theorem tb3:(4:Nat)≠137:=by decide
theorem yF {w:World} {a b:Nat} {T T':TypeId} {N N':Nat} {f f':Nat->Value} (h:w.rowIs a T N f) (h':w.rowIs b T' N' f') (ht:T≠T'):a≠b:=fun e=>by
 subst e;obtain⟨c,h1,_⟩:=h;obtain⟨c',h2,_⟩:=h';rw[h1] at h2;injection h2 with h2
 injection h2 with _ h3
 exact ht h3
theorem Fr.bno {base fb:Nat} {F:Fz} {S:List Nat} {sv mv:Value} {w:World} (h:Fr base fb F S sv mv w):∀g N f,w.rowIs g 4 N f->g∉S:=by
 intro g N f hr hm;rw[h.foot] at hm;rcases List.mem_cons.1 hm with h1|h1
 ·exact yF hr h.row tb3 h1
 ·rcases List.mem_append.1 h1 with h2|h2
  ·exact zQ hr h.st tb1 g (by simpa using h2) rfl
  ·exact zQ hr h.me tb2 g (by simpa using h2) rfl
theorem zc0 {S:List Nat} {w w':World} (h:∀i,i<4->w.cell? ⟨0,i,none⟩=some (.int .u64 0)) (hk:Kb S w w') (h0:0∉S) (hs:0<w.heap.size):∀i,i<4->w'.cell? ⟨0,i,none⟩=some (.int .u64 0):=
 fun i hi=>(World.cell?_of_block (w:=w) (hk.block 0 hs h0)).trans (h i hi)
theorem Fr.low {base fb:Nat} {F:Fz} {S:List Nat} {sv mv:Value} {w:World} (h:Fr base fb F S sv mv w):∀k∈S,base<=k:=by
 intro k hk;rw[h.foot] at hk;rcases List.mem_cons.1 hk with h1|h1
 ·rw[h1];exact h.hfb
 ·rcases List.mem_append.1 h1 with h2|h2
  ·exact(h.st.lt k (by simpa using h2)).1
  ·exact(h.me.lt k (by simpa using h2)).1
theorem Fr.no0 {base fb:Nat} {F:Fz} {S:List Nat} {sv mv:Value} {w:World} (h:Fr base fb F S sv mv w):0∉S:=fun hm=>by
 have:=h.low 0 hm;have:=h.hb1;omega
theorem Fr.hs {base fb:Nat} {F:Fz} {S:List Nat} {sv mv:Value} {w:World} (h:Fr base fb F S sv mv w):0<w.heap.size:=Nat.lt_of_lt_of_le h.hb1 h.hb
def To (base fb:Nat) (F':Fz) (S:List Nat) (w w':World):Prop:=∃S' sv mv,Fr base fb F' S' sv mv w'/\Kb S w w'/\∀k∈S',k∈S\/w.heap.size<=k
theorem To.trans {base fb:Nat} {F1 F2:Fz} {S:List Nat} {w w1 w2:World} (h:To base fb F1 S w w1) (k:∀S1 sv mv,Fr base fb F1 S1 sv mv w1->To base fb F2 S1 w1 w2):To base fb F2 S w w2:=by
 obtain⟨S1,sv,mv,h1,h2,h3⟩:=h;obtain⟨S2,sv2,mv2,k1,k2,k3⟩:=k S1 sv mv h1;refine⟨S2,sv2,mv2,k1,h2.trans k2 h3,fun i hi=> ?_⟩;rcases k3 i hi with h4|h4
 ·exact h3 i h4
 ·exact Or.inr (Nat.le_trans h2.size h4)
theorem Fr.to {base fb:Nat} {F:Fz} {S:List Nat} {sv mv:Value} {w:World} (h:Fr base fb F S sv mv w):To base fb F S w w:=⟨S,sv,mv,h,Kb.refl _ _,fun k hk=>Or.inl hk⟩
theorem Fr.below {base fb:Nat} {F:Fz} {S:List Nat} {sv mv:Value} {w w':World} (h:Fr base fb F S sv mv w) (hb:Below w.heap.size w w'):Fr base fb F S sv mv w':=
 ⟨zf h.row hb,zA h.st hb,zA h.me hb,h.foot,h.stl,h.mel,h.gal,Nat.le_trans h.hb hb.size,zc0 h.zr (Kb.of_below (S:=[]) hb) (by simp) h.hs,h.hb1,h.hfb,h.m32,h.jr.kb (Kb.of_below (S:=[]) hb) (fun _ _ _ _=>by simp)⟩
def Out {α:Type} (r:Option (α×Fz)) (val:α->Value) (base fb:Nat) (S:List Nat) (w:World) (e:Ending) (w':World):Prop:=
 match r with
 |some (a,F')=>e=.returned (val a)/\To base fb F' S w w'
 |none=>Pan e/\Kb S w w'
def zM:Unit->Value:=fun _=>.tuple #[]
def zP (n:Nat) (F:Fz):Option (Unit×Fz):=if F.st.length=1024 then none else some ((),{F with st:=n::F.st})
def zu (F:Fz):Option (Nat×Fz):=match F.st with
 |[]=>none
 |n::r=>some (n,{F with st:=r})
def yQ (c:Nat) (F:Fz):Option (Unit×Fz):=if F.gas<c then none else some ((),{F with gas:=F.gas - c})
theorem cell_sv (F:Fz) (sv mv v':Value) (st:List Nat):(fun i=>if i=19 then v' else F.cell sv mv i)=({F with st:=st}:Fz).cell v' mv:=by
 funext i;by_cases h:i=19
 ·subst h;rfl
 ·simp only[Fz.cell,if_neg h]
theorem zfT (F:Fz) (sv mv:Value) (g:Nat):(fun i=>if i=16 then .int .i64 (g:Int) else F.cell sv mv i)=({F with gas:=g}:Fz).cell sv mv:=by
 funext i;by_cases h:i=16
 ·subst h;rfl
 ·simp only[Fz.cell,if_neg h]
theorem tF:(137:Nat)≠24:=by decide
theorem tB:(137:Nat)≠5:=by decide
theorem tWB:(24:Nat)≠5:=by decide
theorem Fr.fm {base fb:Nat} {F:Fz} {S:List Nat} {sv mv:Value} {w:World} (h:Fr base fb F S sv mv w):∀k,mv.ownBlock=some k->k≠fb:=zQ h.row h.me tB
theorem Fr.fs {base fb:Nat} {F:Fz} {S:List Nat} {sv mv:Value} {w:World} (h:Fr base fb F S sv mv w):∀k,sv.ownBlock=some k->k≠fb:=zQ h.row h.st tF
theorem Fr.sm {base fb:Nat} {F:Fz} {S:List Nat} {sv mv:Value} {w:World} (h:Fr base fb F S sv mv w):∀k,mv.ownBlock=some k->k∉fb::sv.ownBlock.toList:=fun k hk hm=>by
 rcases List.mem_cons.1 hm with h1|h1
 ·exact h.fm k hk h1
 ·have h2:sv.ownBlock=some k:=by simpa using h1
  rcases zct h.me h.st (Ne.symm tWB) with h3|h3
  ·rw[h3] at hk;cases hk
  ·exact h3 (hk.trans h2.symm)
theorem Fr.stack {base fb:Nat} {F:Fz} {S:List Nat} {sv mv v':Value} {w w':World} {st:List Nat} (h:Fr base fb F S sv mv w) (hl:st.length<=1024) (hw:Wds w' base v' st.reverse) (hf:zar w sv v') (hu:Up sv.ownBlock.toList fb 19 v' w w'):To base fb {F with st:=st} S w w':=by
 refine⟨_,v',mv,⟨(cell_sv F sv mv v' st)▸hu.row h.row,hw,hu.kb.own h.me h.sm,rfl,hl,h.mel,h.gal,Nat.le_trans h.hb hu.kb.size,zc0 h.zr hu.kb (fun hm=>h.no0 (by rw[h.foot];rcases List.mem_cons.1 hm with e|e;simp[e];exact List.mem_cons_of_mem _ (List.mem_append_left _ e))) h.hs,h.hb1,h.hfb,h.m32,h.jr.kb hu.kb (fun g N f hr hm=>h.bno g N f hr (by rw[h.foot];rcases List.mem_cons.1 hm with e|e;simp[e];exact List.mem_cons_of_mem _ (List.mem_append_left _ e)))⟩, ?_, ?_⟩
 ·rw[h.foot];exact hu.kb.mono (fun i hi=>by rcases List.mem_cons.1 hi with h1|h1;simp[h1];exact List.mem_cons_of_mem _ (List.mem_append_left _ h1))
 ·intro k hk;rw[h.foot];rcases List.mem_cons.1 hk with h1|h1
  ·exact Or.inl (by simp[h1])
  ·rcases List.mem_append.1 h1 with h2|h2
   ·have h3:v'.ownBlock=some k:=by simpa using h2
    rcases hf with h4|h4
    ·exact Or.inl (List.mem_cons_of_mem _ (List.mem_append_left _ (by rw[<-h4];exact h2)))
    ·exact Or.inr (h4 k h3)
   ·exact Or.inl (List.mem_cons_of_mem _ (List.mem_append_right _ h2))
theorem zhX {base fb:Nat} {F:Fz} {S:List Nat} {sv mv:Value} (n:Nat) (w:World) (h:Fr base fb F S sv mv w):
  Calls prog 259 #[.pointer (some ⟨fb,19,none⟩),wv n] w (Out (zP n F) zM base fb S w):=by
 unfold zP;by_cases hl:F.st.length=1024
 ·rw[if_pos hl];exact(zkA fb 19 n base F.st.reverse sv w h.row (by decide) rfl h.st (by simpa using hl)).mono fun e w' ⟨h1,h2⟩=>⟨h1,Kb.of_below h2⟩
 ·rw[if_neg hl];refine(push_ok fb 19 n base F.st.reverse sv w h.row (by decide) rfl tF h.st (by have:=h.stl;simp;omega) h.hb).mono fun e w' ⟨h1,v',h2,h3,h4⟩=>⟨h1,h.stack (by have:=h.stl;simp;omega) (by rw[List.reverse_cons];exact h2) h3 h4⟩
theorem pop_no {T N:Nat} {f:Nat->Value} (fb o cap:Nat) (ad:Option Addr) (w:World) (hr:w.rowIs fb T N f) (ho:o<N) (hv:f o=.slice ad 0 cap):
  Calls prog 257 #[.pointer (some ⟨fb,o,none⟩)] w fun e w'=>Pan e/\Below w.heap.size w w':=by
 have hc:(w.alloc (.cells #[.int .u64 0,.int .u64 0,.int .u64 0,.int .u64 0] 24)).cell? ⟨fb,o,none⟩=some (.slice ad 0 cap):=((bal (Below.refl _ w) _).cell (by exact hr.lt)).trans ((hr.cell ho).trans (congrArg some hv));have HP:=ze (zne fb o 0 0 cap ad _ hc (by omega) (by omega) (by omega));clear hr hv;go_enter func257,ntmps257;go_wp2_with fail
 refine HP.out.mono ?_;rintro e w1 ⟨⟨u,pv,rfl⟩,rfl⟩;go_wp2;exact⟨rfl,⟨_,_,rfl⟩,bal (Below.refl _ _) _⟩
theorem zbC {base fb:Nat} {F:Fz} {S:List Nat} {sv mv:Value} (w:World) (h:Fr base fb F S sv mv w):
  Calls prog 257 #[.pointer (some ⟨fb,19,none⟩)] w (Out (zu F) wv base fb S w):=by
 unfold zu;cases hs:F.st with
 |nil=>
  have h1:=h.st;rw[hs] at h1;obtain⟨ad,cap,rfl⟩:=ZN h1;exact(pop_no fb 19 cap ad w h.row (by decide) rfl).mono fun e w' ⟨h1,h2⟩=>⟨h1,Kb.of_below h2⟩
 |cons n r=>
  have h1:=h.st;have hl:=h.stl;rw[hs] at h1 hl;rw[List.reverse_cons] at h1;refine(pop_ok fb 19 n base r.reverse sv w h.row (by decide) rfl tF h1 (by simp at hl⊢;omega)).mono fun e w' ⟨h1,v',h2,h3,h4⟩=>⟨h1,h.stack (by simp at hl;omega) h2 (Or.inl h3) ⟨h4.kb.mono (fun i hi=>by rcases List.mem_cons.1 hi with e|e;simp[e];cases e),h4.row⟩⟩
theorem Fr.own {base fb:Nat} {F F':Fz} {S:List Nat} {sv mv:Value} {w w':World} (h:Fr base fb F S sv mv w) (hst:F'.st=F.st) (hme:F'.mem=F.mem) (hjd:F'.jd=F.jd) (hcd:F'.code=F.code) (hg:F'.gas<=100000) (hr:w'.rowIs fb 137 27 (F'.cell sv mv)) (hk:Kb [fb] w w'):To base fb F' S w w':=by
 refine⟨S,sv,mv,⟨hr,by rw[hst];exact hk.own h.st (fun k hk=>by simpa using h.fs k hk),by rw[hme];exact hk.own h.me (fun k hk=>by simpa using h.fm k hk),h.foot,by rw[hst];exact h.stl,by rw[hme];exact h.mel,hg,Nat.le_trans h.hb hk.size,zc0 h.zr hk (fun hm=>h.no0 (by rw[h.foot];simp at hm;simp[hm])) h.hs,h.hb1,h.hfb,by rw[hme];exact h.m32,by rw[hjd,hcd];exact h.jr.kb hk (fun g N f hr hm=>h.bno g N f hr (by rw[h.foot];simp at hm;simp[hm]))⟩,hk.mono (fun i hi=>by rw[h.foot];simp at hi;simp[hi]),fun k hk=>Or.inl hk⟩
theorem zjn {base fb:Nat} {F:Fz} {S:List Nat} {sv mv:Value} (c:Nat) (hc:c<=100000000) (w:World) (h:Fr base fb F S sv mv w):
  Calls prog 204 #[.pointer (some ⟨fb,0,none⟩),.int .i64 (c:Int)] w (Out (yQ c F) zM base fb S w):=by
 have hg:=h.row.cell (i:=16) (by decide);have hz:=h.row.frozen 16;rw[show F.cell sv mv 16=.int .i64 (F.gas:Int) from rfl] at hg;have hgl:=h.gal;unfold yQ;by_cases hl:F.gas<c
 ·have d:decide ((F.gas:Int)<(c:Int))=true:=decide_eq_true (by omega);rw[if_pos hl];go_enter func204,ntmps204;go_wp2;exact⟨rfl,⟨_,_,rfl⟩,Kb.refl _ _⟩
 ·have d:decide ((F.gas:Int)<(c:Int))=false:=decide_eq_false (by omega);rw[if_neg hl];have HH:=ze h;clear h;go_enter func204,ntmps204;go_wp2;go_end0;refine⟨rfl,HH.out.own rfl rfl rfl rfl (by show F.gas - c<=_;omega) ?_ ((Kb.refl [fb] w).setCell (Or.inl (by simp)) _)⟩;rw[<-zfT F sv mv (F.gas - c)];refine(HH.out.row.set 16 _).congr fun i hi=> ?_
  show(if i=_ then _ else _)=_;by_cases e:i=16
  ·rw[if_pos e,if_pos e];exact congrArg (Value.int .i64) (by omega)
  ·rw[if_neg e,if_neg e]
end cin
end Go.Proofs.YtohoajjdoihekaaGreatDoor
